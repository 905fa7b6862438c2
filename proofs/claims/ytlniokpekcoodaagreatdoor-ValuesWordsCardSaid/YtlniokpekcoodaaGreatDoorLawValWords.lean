/-
  ValuesWords: the law's contract.
-/
import Derived.Test.YtlniokpekcoodaaGreatDoorValAwakeM
import Derived.Test.YtlniokpekcoodaaGreatDoorCParseNM
import Derived.Test.YtlniokpekcoodaaGreatDoorRSame
import Derived.DataShut
set_option linter.unusedVariables false
set_option linter.unusedSimpArgs false
namespace Go.Proofs.YtlniokpekcoodaaGreatDoor
open Go.RowKit

theorem quoteZ (s : ByteArray) : (⟨(quoteL s.data.toList).toArray⟩ : ByteArray).size ≤ 2 + 2 * s.size := by
  rw [Lib.size_eq]
  have := esc_len s.data.toList
  simp only [quoteL, List.length_cons, List.length_append, List.length_nil]
  rw [← Lib.size_eq] at this
  omega
theorem singleZ (s : ByteArray) : (⟨(singleL s.data.toList).toArray⟩ : ByteArray).size ≤ 2 + 2 * s.size := by
  rw [Lib.size_eq]
  have := sq_len s.data.toList
  simp only [singleL, List.length_cons, List.length_append, List.length_nil]
  rw [← Lib.size_eq] at this
  omega
/-- Word of a text in quotes, of either kind. -/
theorem word_quote (s : ByteArray) (hs : s.size ≤ 100000) (m : Int) (w : World) (hm : w.cell? ⟨0, 0, none⟩ = some (.int .i64 m)) (h0 : 0 < w.heap.size) :
    Calls Tryz.prog 19 #[.string ⟨(quoteL s.data.toList).toArray⟩] w (ParseTo w (six 3 false 0 s) 0) := by
  refine vWord_quoted _ (by have := quoteZ s; omega) (by simp [quotedB, quoteL, Lib.hasPrefix]) m w hm h0 3 s 0 ?_
  have h := unq_quote s.data.toList []
  rw [List.append_nil] at h
  rw [show (⟨(quoteL s.data.toList).toArray⟩ : ByteArray).data.toList = quoteL s.data.toList from rfl, h, wordQ, Lib.mk_data]
theorem word_single (s : ByteArray) (hs : s.size ≤ 100000) (m : Int) (w : World) (hm : w.cell? ⟨0, 0, none⟩ = some (.int .i64 m)) (h0 : 0 < w.heap.size) :
    Calls Tryz.prog 19 #[.string ⟨(singleL s.data.toList).toArray⟩] w (ParseTo w (six 3 false 0 s) 0) := by
  refine vWord_quoted _ (by have := singleZ s; omega) (by simp [quotedB, singleL, Lib.hasPrefix]) m w hm h0 3 s 0 ?_
  have h := unq_single s.data.toList [] rfl
  rw [List.append_nil] at h
  rw [show (⟨(singleL s.data.toList).toArray⟩ : ByteArray).data.toList = singleL s.data.toList from rfl, h, wordQ, Lib.mk_data]

set_option maxRecDepth 100000 in
set_option maxHeartbeats 8000000 in
theorem valuesWords_any (s : ByteArray) (hs47 : s.size ≤ 140737488355328) (m : Int) (w : World) (hm : w.cell? ⟨0, 0, none⟩ = some (.int .i64 m)) (h0 : 0 < w.heap.size) (ev : Value) (hc1 : w.cell? ⟨2, 0, none⟩ = some ev) (hev : ev = .nilIface ∨ ∃ te pe, ev = .iface te pe) (hw1 : 2 < w.heap.size) :
    Calls Tryz.prog 5 #[.string s] w fun e w' => e = .returned (.bool true) ∧ Below w.heap.size w w' := by
  have AW : Hid (∀ w1, Below w.heap.size w w1 → Calls Tryz.prog 8 #[] w1 fun e w' => e = .returned (.bool true) ∧ Below w1.heap.size w1 w') := fun w1 hb => l11awake_any w1 m ((hb.cell (p := ⟨0, 0, none⟩) h0).trans hm) (Nat.lt_of_lt_of_le h0 hb.size)
  by_cases hs : s.size ≤ 300
  case neg =>
    have g1 : ((s.size : Int) > 300) := by omega
    go_enter Tryz.func5, Tryz.ntmps5
    go_wp2_with (go_at_call 8; refine (AW.out _ (Below.refl _ _)).mono ?_; rintro e w1 ⟨rfl, hb1⟩)
    go_ret
    exact ⟨rfl, hb1⟩
  have g1 : ¬ ((s.size : Int) > 300) := by omega
  obtain ⟨k', b', n', x', c, ⟨q1, q2, q3, q4, q5⟩, PC, PR⟩ := parse_both s (by omega)
  have HPR := Lib.hid PR
  have hn' : (Lit.int .i64 n').wf = true := (Lit.wf_int_iff _ _).2 ⟨q4, q5⟩
  have hk' : (Lit.int .i64 k').wf = true := (Lit.wf_int_iff _ _).2 ⟨by show (-9223372036854775808 : Int) ≤ k'; omega, by show k' ≤ (9223372036854775807 : Int); omega⟩
  have HLV : Hid (∀ W, Lies W (fun _ => True) (.mk k' b' n' x' [] []) #[.int .i64 k', .bool b', .int .i64 n', .string x', .slice none 0 0, .slice none 0 0]) := fun W => leafV W k' b' n' x' hk' hn' (by omega)
  have SM : Hid (∀ W, Calls Tryz.prog 12 #[.agg #[.int .i64 k', .bool b', .int .i64 n', .string x', .slice none 0 0, .slice none 0 0], .agg #[.int .i64 k', .bool b', .int .i64 n', .string x', .slice none 0 0, .slice none 0 0]] W fun e w' => e = .returned (.bool true) ∧ Below W.heap.size W w') := fun W => by
    have := rSame_any (HLV.out W) (HLV.out W) W (Below.refl _ _)
    rw [T.same_self] at this
    exact this
  have WS : Hid (quotedB s.data.toList = false → ∀ w1, Below w.heap.size w w1 → Calls Tryz.prog 19 #[.string s] w1 (ParseTo w1 #[.int .i64 k', .bool b', .int .i64 n', .string x', .slice none 0 0, .slice none 0 0] c)) := fun hq w1 hb1 =>
    vWord_bare s hq k' b' n' x' c w1 (fun w2 hb2 => PC w2 ev (((bstep hb1 hb2 hb1.size).cell (p := ⟨2, 0, none⟩) hw1).trans hc1) hev (Nat.lt_of_lt_of_le hw1 (bstep hb1 hb2 hb1.size).size))
  have WQ : Hid (∀ w1, Below w.heap.size w w1 → Calls Tryz.prog 19 #[.string ⟨(quoteL s.data.toList).toArray⟩] w1 (ParseTo w1 #[.int .i64 3, .bool false, .int .i64 0, .string s, .slice none 0 0, .slice none 0 0] 0)) := fun w1 hb => word_quote s (by omega) m w1 ((hb.cell (p := ⟨0, 0, none⟩) h0).trans hm) (Nat.lt_of_lt_of_le h0 hb.size)
  have WG : Hid (∀ w1, Below w.heap.size w w1 → Calls Tryz.prog 19 #[.string ⟨(singleL s.data.toList).toArray⟩] w1 (ParseTo w1 #[.int .i64 3, .bool false, .int .i64 0, .string s, .slice none 0 0, .slice none 0 0] 0)) := fun w1 hb => word_single s (by omega) m w1 ((hb.cell (p := ⟨0, 0, none⟩) h0).trans hm) (Nat.lt_of_lt_of_le h0 hb.size)
  have RQ : Hid (∀ w1, Calls Tryz.prog 16 #[.string s] w1 fun e w' => e = .returned (.string ⟨(quoteL s.data.toList).toArray⟩) ∧ w' = w1) := fun w1 => r4Quote_any s (by omega) w1
  have RS : Hid (∀ w1, Calls Tryz.prog 17 #[.string s] w1 fun e w' => e = .returned (.string ⟨(singleL s.data.toList).toArray⟩) ∧ w' = w1) := fun w1 => r4Single_any s (by omega) w1
  generalize (⟨(quoteL s.data.toList).toArray⟩ : ByteArray) = q at WQ RQ
  generalize (⟨(singleL s.data.toList).toArray⟩ : ByteArray) = g at WG RS
  have hss : (s.toList != s.toList) = false := by simp
  have hcc : (c == c) = true := by simp
  have HB0 : Hid (Below w.heap.size w w) := Below.refl _ _
  have hcase : (s.toList.isEmpty = true ∧ quotedB s.data.toList = false) ∨ (∃ h : 0 < s.size, s.toList.isEmpty = false ∧ ((s[0].toNat : Int) == 34) = false ∧ ((s[0].toNat : Int) == 39) = false ∧ quotedB s.data.toList = false) ∨
      (∃ h : 0 < s.size, s.toList.isEmpty = false ∧ ((s[0].toNat : Int) == 34) = true) ∨ (∃ h : 0 < s.size, s.toList.isEmpty = false ∧ ((s[0].toNat : Int) == 34) = false ∧ ((s[0].toNat : Int) == 39) = true) := by
    by_cases h : 0 < s.size
    · have e := drop_step s 0 h
      rw [List.drop_zero] at e
      have hne : s.toList.isEmpty = false := by rw [Lib.toList_data, e]; rfl
      by_cases h2 : s[0] = 34
      · exact .inr (.inr (.inl ⟨h, hne, by rw [h2]; rfl⟩))
      · have h2' : ((s[0].toNat : Int) == 34) = false := by rw [beq_eq_false_iff_ne]; exact fun e2 => h2 (byteIs (by have : (34 : UInt8).toNat = 34 := rfl; omega))
        by_cases h3 : s[0] = 39
        · exact .inr (.inr (.inr ⟨h, hne, h2', by rw [h3]; rfl⟩))
        · refine .inr (.inl ⟨h, hne, h2', by rw [beq_eq_false_iff_ne]; exact fun e2 => h3 (byteIs (by have : (39 : UInt8).toNat = 39 := rfl; omega)), ?_⟩)
          rw [e]
          simp [quotedB, Lib.hasPrefix, List.isPrefixOf]
          exact ⟨fun e2 => h2 e2.symm, fun e2 => h3 e2.symm⟩
    · have e : s.data.toList = [] := List.eq_nil_of_length_eq_zero (by rw [← Lib.size_eq]; omega)
      exact .inl ⟨by rw [Lib.toList_data, e]; rfl, by rw [e]; rfl⟩
  clear PC PR hm hc1 hev hn' hk' HLV
  rcases hcase with ⟨z0, hq⟩ | ⟨zh, z0, z1, z2, hq⟩ | ⟨zh, z0, z1⟩ | ⟨zh, z0, z1, z2⟩
  · have HWS := Lib.hid (WS.out hq)
    clear WS hq
    go_enter Tryz.func5, Tryz.ntmps5
    go_upto_region 4 with (first
      | (go_at_call 16; refine (RQ.out _).mono ?_; rintro e wq ⟨rfl, hwq⟩; have hwq2 := hwq.symm; subst hwq2)
      | (go_at_call 19; refine (WQ.out _ HB0.out).mono ?_; rintro e w1 ⟨rfl, hb⟩; have HB1 := Lib.hid hb; clear hb))
    have b1 := Box6.new w1 #[.int .i64 3, .bool false, .int .i64 0, .string s, .slice none 0 0, .slice none 0 0] 25
    have hb1 := HB1.out.alloc HB1.out.size (.cells #[.int .i64 3, .bool false, .int .i64 0, .string s, .slice none 0 0, .slice none 0 0] 25)
    have hs1 : w1.heap.size < (w1.alloc (.cells #[.int .i64 3, .bool false, .int .i64 0, .string s, .slice none 0 0, .slice none 0 0] 25)).heap.size := by simp
    generalize w1.alloc (.cells #[.int .i64 3, .bool false, .int .i64 0, .string s, .slice none 0 0, .slice none 0 0] 25) = v1 at b1 hb1 hs1 ⊢
    have BX := Lib.hid b1
    have HV1 := Lib.hid hb1
    have HS1 := Lib.hid hs1
    clear b1 hb1 hs1
    go_upto_region 5 with (first
      | (go_at_call 17; refine (RS.out _).mono ?_; rintro e wg ⟨rfl, hwg⟩; have hwg2 := hwg.symm; subst hwg2)
      | (go_at_call 19; refine (WG.out _ HV1.out).mono ?_; rintro e w2 ⟨rfl, hb⟩; have HB2 := Lib.hid hb; clear hb))
    have b2 := Box6.new w2 #[.int .i64 3, .bool false, .int .i64 0, .string s, .slice none 0 0, .slice none 0 0] 25
    have hb2 := HB2.out.alloc HB2.out.size (.cells #[.int .i64 3, .bool false, .int .i64 0, .string s, .slice none 0 0, .slice none 0 0] 25)
    generalize w2.alloc (.cells #[.int .i64 3, .bool false, .int .i64 0, .string s, .slice none 0 0, .slice none 0 0] 25) = v2 at b2 hb2 ⊢
    obtain ⟨x0, x1, x2, x3, x4, x5⟩ := (BX.out.later hb2 HS1.out).six
    obtain ⟨y0, y1, y2, y3, y4, y5⟩ := b2.six
    have HV2 := Lib.hid (bstep HV1.out hb2 HV1.out.size)
    clear b2 hb2
    go_upto_region 10 with (go_at_call 19; refine (HWS.out _ HV2.out).mono ?_; rintro e w3 ⟨rfl, hb⟩; have HB3 := Lib.hid hb; clear hb)
    clear x0 x1 x2 x3 x4 x5 y0 y1 y2 y3 y4 y5
    have b3 := Box6.new w3 #[.int .i64 k', .bool b', .int .i64 n', .string x', .slice none 0 0, .slice none 0 0] 25
    have hb3 := HB3.out.alloc HB3.out.size (.cells #[.int .i64 k', .bool b', .int .i64 n', .string x', .slice none 0 0, .slice none 0 0] 25)
    have hs3 : w3.heap.size < (w3.alloc (.cells #[.int .i64 k', .bool b', .int .i64 n', .string x', .slice none 0 0, .slice none 0 0] 25)).heap.size := by simp
    generalize w3.alloc (.cells #[.int .i64 k', .bool b', .int .i64 n', .string x', .slice none 0 0, .slice none 0 0] 25) = v3 at b3 hb3 hs3 ⊢
    have BY := Lib.hid b3
    have HV3 := Lib.hid (bstep HV2.out hb3 HV2.out.size)
    have HS3 := Lib.hid hs3
    clear b3 hb3 hs3
    go_upto_region 11 with (go_at_call 23; refine (HPR.out _).mono ?_; rintro e w4 ⟨rfl, hb⟩; have HB4 := Lib.hid hb; clear hb)
    have b4 := Box6.new w4 #[.int .i64 k', .bool b', .int .i64 n', .string x', .slice none 0 0, .slice none 0 0] 25
    have hb4 := HB4.out.alloc HB4.out.size (.cells #[.int .i64 k', .bool b', .int .i64 n', .string x', .slice none 0 0, .slice none 0 0] 25)
    have hs4 : w4.heap.size < (w4.alloc (.cells #[.int .i64 k', .bool b', .int .i64 n', .string x', .slice none 0 0, .slice none 0 0] 25)).heap.size := by simp
    generalize w4.alloc (.cells #[.int .i64 k', .bool b', .int .i64 n', .string x', .slice none 0 0, .slice none 0 0] 25) = v4 at b4 hb4 hs4 ⊢
    have BZ := Lib.hid b4
    have hv34 := Lib.hid hb4
    have HV4 := Lib.hid (bstep HV3.out hb4 HV3.out.size)
    have HS4 := Lib.hid hs4
    clear b4 hb4 hs4
    go_wp2_with (first
      | (go_at_call 8; refine (AW.out _ HV4.out).mono ?_; rintro e w5 ⟨rfl, hb5⟩
         have HB5 := Lib.hid hb5
         obtain ⟨x0, x1, x2, x3, x4, x5⟩ := (BY.out.later (bstep hv34.out hb5 hv34.out.size) HS3.out).six
         obtain ⟨y0, y1, y2, y3, y4, y5⟩ := (BZ.out.later hb5 HS4.out).six
         clear hb5)
      | (go_at_call 12; refine (SM.out _).mono ?_; rintro e w6 ⟨rfl, hb6⟩))
    go_ret
    exact ⟨rfl, bstep (bstep HV4.out HB5.out HV4.out.size) hb6 (bstep HV4.out HB5.out HV4.out.size).size⟩
  · have HWS := Lib.hid (WS.out hq)
    clear WS hq
    go_enter Tryz.func5, Tryz.ntmps5
    go_upto_region 4 with (first
      | (go_at_call 16; refine (RQ.out _).mono ?_; rintro e wq ⟨rfl, hwq⟩; have hwq2 := hwq.symm; subst hwq2)
      | (go_at_call 19; refine (WQ.out _ HB0.out).mono ?_; rintro e w1 ⟨rfl, hb⟩; have HB1 := Lib.hid hb; clear hb))
    have b1 := Box6.new w1 #[.int .i64 3, .bool false, .int .i64 0, .string s, .slice none 0 0, .slice none 0 0] 25
    have hb1 := HB1.out.alloc HB1.out.size (.cells #[.int .i64 3, .bool false, .int .i64 0, .string s, .slice none 0 0, .slice none 0 0] 25)
    have hs1 : w1.heap.size < (w1.alloc (.cells #[.int .i64 3, .bool false, .int .i64 0, .string s, .slice none 0 0, .slice none 0 0] 25)).heap.size := by simp
    generalize w1.alloc (.cells #[.int .i64 3, .bool false, .int .i64 0, .string s, .slice none 0 0, .slice none 0 0] 25) = v1 at b1 hb1 hs1 ⊢
    have BX := Lib.hid b1
    have HV1 := Lib.hid hb1
    have HS1 := Lib.hid hs1
    clear b1 hb1 hs1
    go_upto_region 5 with (first
      | (go_at_call 17; refine (RS.out _).mono ?_; rintro e wg ⟨rfl, hwg⟩; have hwg2 := hwg.symm; subst hwg2)
      | (go_at_call 19; refine (WG.out _ HV1.out).mono ?_; rintro e w2 ⟨rfl, hb⟩; have HB2 := Lib.hid hb; clear hb))
    have b2 := Box6.new w2 #[.int .i64 3, .bool false, .int .i64 0, .string s, .slice none 0 0, .slice none 0 0] 25
    have hb2 := HB2.out.alloc HB2.out.size (.cells #[.int .i64 3, .bool false, .int .i64 0, .string s, .slice none 0 0, .slice none 0 0] 25)
    generalize w2.alloc (.cells #[.int .i64 3, .bool false, .int .i64 0, .string s, .slice none 0 0, .slice none 0 0] 25) = v2 at b2 hb2 ⊢
    obtain ⟨x0, x1, x2, x3, x4, x5⟩ := (BX.out.later hb2 HS1.out).six
    obtain ⟨y0, y1, y2, y3, y4, y5⟩ := b2.six
    have HV2 := Lib.hid (bstep HV1.out hb2 HV1.out.size)
    clear b2 hb2
    go_upto_region 10 with (go_at_call 19; refine (HWS.out _ HV2.out).mono ?_; rintro e w3 ⟨rfl, hb⟩; have HB3 := Lib.hid hb; clear hb)
    clear x0 x1 x2 x3 x4 x5 y0 y1 y2 y3 y4 y5
    have b3 := Box6.new w3 #[.int .i64 k', .bool b', .int .i64 n', .string x', .slice none 0 0, .slice none 0 0] 25
    have hb3 := HB3.out.alloc HB3.out.size (.cells #[.int .i64 k', .bool b', .int .i64 n', .string x', .slice none 0 0, .slice none 0 0] 25)
    have hs3 : w3.heap.size < (w3.alloc (.cells #[.int .i64 k', .bool b', .int .i64 n', .string x', .slice none 0 0, .slice none 0 0] 25)).heap.size := by simp
    generalize w3.alloc (.cells #[.int .i64 k', .bool b', .int .i64 n', .string x', .slice none 0 0, .slice none 0 0] 25) = v3 at b3 hb3 hs3 ⊢
    have BY := Lib.hid b3
    have HV3 := Lib.hid (bstep HV2.out hb3 HV2.out.size)
    have HS3 := Lib.hid hs3
    clear b3 hb3 hs3
    go_upto_region 11 with (go_at_call 23; refine (HPR.out _).mono ?_; rintro e w4 ⟨rfl, hb⟩; have HB4 := Lib.hid hb; clear hb)
    have b4 := Box6.new w4 #[.int .i64 k', .bool b', .int .i64 n', .string x', .slice none 0 0, .slice none 0 0] 25
    have hb4 := HB4.out.alloc HB4.out.size (.cells #[.int .i64 k', .bool b', .int .i64 n', .string x', .slice none 0 0, .slice none 0 0] 25)
    have hs4 : w4.heap.size < (w4.alloc (.cells #[.int .i64 k', .bool b', .int .i64 n', .string x', .slice none 0 0, .slice none 0 0] 25)).heap.size := by simp
    generalize w4.alloc (.cells #[.int .i64 k', .bool b', .int .i64 n', .string x', .slice none 0 0, .slice none 0 0] 25) = v4 at b4 hb4 hs4 ⊢
    have BZ := Lib.hid b4
    have hv34 := Lib.hid hb4
    have HV4 := Lib.hid (bstep HV3.out hb4 HV3.out.size)
    have HS4 := Lib.hid hs4
    clear b4 hb4 hs4
    go_wp2_with (first
      | (go_at_call 8; refine (AW.out _ HV4.out).mono ?_; rintro e w5 ⟨rfl, hb5⟩
         have HB5 := Lib.hid hb5
         obtain ⟨x0, x1, x2, x3, x4, x5⟩ := (BY.out.later (bstep hv34.out hb5 hv34.out.size) HS3.out).six
         obtain ⟨y0, y1, y2, y3, y4, y5⟩ := (BZ.out.later hb5 HS4.out).six
         clear hb5)
      | (go_at_call 12; refine (SM.out _).mono ?_; rintro e w6 ⟨rfl, hb6⟩))
    go_ret
    exact ⟨rfl, bstep (bstep HV4.out HB5.out HV4.out.size) hb6 (bstep HV4.out HB5.out HV4.out.size).size⟩
  · clear WS
    go_enter Tryz.func5, Tryz.ntmps5
    go_upto_region 4 with (first
      | (go_at_call 16; refine (RQ.out _).mono ?_; rintro e wq ⟨rfl, hwq⟩; have hwq2 := hwq.symm; subst hwq2)
      | (go_at_call 19; refine (WQ.out _ HB0.out).mono ?_; rintro e w1 ⟨rfl, hb⟩; have HB1 := Lib.hid hb; clear hb))
    have b1 := Box6.new w1 #[.int .i64 3, .bool false, .int .i64 0, .string s, .slice none 0 0, .slice none 0 0] 25
    have hb1 := HB1.out.alloc HB1.out.size (.cells #[.int .i64 3, .bool false, .int .i64 0, .string s, .slice none 0 0, .slice none 0 0] 25)
    have hs1 : w1.heap.size < (w1.alloc (.cells #[.int .i64 3, .bool false, .int .i64 0, .string s, .slice none 0 0, .slice none 0 0] 25)).heap.size := by simp
    generalize w1.alloc (.cells #[.int .i64 3, .bool false, .int .i64 0, .string s, .slice none 0 0, .slice none 0 0] 25) = v1 at b1 hb1 hs1 ⊢
    have BX := Lib.hid b1
    have HV1 := Lib.hid hb1
    have HS1 := Lib.hid hs1
    clear b1 hb1 hs1
    go_upto_region 5 with (first
      | (go_at_call 17; refine (RS.out _).mono ?_; rintro e wg ⟨rfl, hwg⟩; have hwg2 := hwg.symm; subst hwg2)
      | (go_at_call 19; refine (WG.out _ HV1.out).mono ?_; rintro e w2 ⟨rfl, hb⟩; have HB2 := Lib.hid hb; clear hb))
    have b2 := Box6.new w2 #[.int .i64 3, .bool false, .int .i64 0, .string s, .slice none 0 0, .slice none 0 0] 25
    have hb2 := HB2.out.alloc HB2.out.size (.cells #[.int .i64 3, .bool false, .int .i64 0, .string s, .slice none 0 0, .slice none 0 0] 25)
    generalize w2.alloc (.cells #[.int .i64 3, .bool false, .int .i64 0, .string s, .slice none 0 0, .slice none 0 0] 25) = v2 at b2 hb2 ⊢
    obtain ⟨x0, x1, x2, x3, x4, x5⟩ := (BX.out.later hb2 HS1.out).six
    obtain ⟨y0, y1, y2, y3, y4, y5⟩ := b2.six
    have HV2 := Lib.hid (bstep HV1.out hb2 HV1.out.size)
    clear b2 hb2
    go_wp2_with (go_at_call 8; refine (AW.out _ HV2.out).mono ?_; rintro e w5 ⟨rfl, hb5⟩)
    go_ret
    exact ⟨rfl, bstep HV2.out hb5 HV2.out.size⟩
  · clear WS
    go_enter Tryz.func5, Tryz.ntmps5
    go_upto_region 4 with (first
      | (go_at_call 16; refine (RQ.out _).mono ?_; rintro e wq ⟨rfl, hwq⟩; have hwq2 := hwq.symm; subst hwq2)
      | (go_at_call 19; refine (WQ.out _ HB0.out).mono ?_; rintro e w1 ⟨rfl, hb⟩; have HB1 := Lib.hid hb; clear hb))
    have b1 := Box6.new w1 #[.int .i64 3, .bool false, .int .i64 0, .string s, .slice none 0 0, .slice none 0 0] 25
    have hb1 := HB1.out.alloc HB1.out.size (.cells #[.int .i64 3, .bool false, .int .i64 0, .string s, .slice none 0 0, .slice none 0 0] 25)
    have hs1 : w1.heap.size < (w1.alloc (.cells #[.int .i64 3, .bool false, .int .i64 0, .string s, .slice none 0 0, .slice none 0 0] 25)).heap.size := by simp
    generalize w1.alloc (.cells #[.int .i64 3, .bool false, .int .i64 0, .string s, .slice none 0 0, .slice none 0 0] 25) = v1 at b1 hb1 hs1 ⊢
    have BX := Lib.hid b1
    have HV1 := Lib.hid hb1
    have HS1 := Lib.hid hs1
    clear b1 hb1 hs1
    go_upto_region 5 with (first
      | (go_at_call 17; refine (RS.out _).mono ?_; rintro e wg ⟨rfl, hwg⟩; have hwg2 := hwg.symm; subst hwg2)
      | (go_at_call 19; refine (WG.out _ HV1.out).mono ?_; rintro e w2 ⟨rfl, hb⟩; have HB2 := Lib.hid hb; clear hb))
    have b2 := Box6.new w2 #[.int .i64 3, .bool false, .int .i64 0, .string s, .slice none 0 0, .slice none 0 0] 25
    have hb2 := HB2.out.alloc HB2.out.size (.cells #[.int .i64 3, .bool false, .int .i64 0, .string s, .slice none 0 0, .slice none 0 0] 25)
    generalize w2.alloc (.cells #[.int .i64 3, .bool false, .int .i64 0, .string s, .slice none 0 0, .slice none 0 0] 25) = v2 at b2 hb2 ⊢
    obtain ⟨x0, x1, x2, x3, x4, x5⟩ := (BX.out.later hb2 HS1.out).six
    obtain ⟨y0, y1, y2, y3, y4, y5⟩ := b2.six
    have HV2 := Lib.hid (bstep HV1.out hb2 HV1.out.size)
    clear b2 hb2
    go_wp2_with (go_at_call 8; refine (AW.out _ HV2.out).mono ?_; rintro e w5 ⟨rfl, hb5⟩)
    go_ret
    exact ⟨rfl, bstep HV2.out hb5 HV2.out.size⟩

end Go.Proofs.YtlniokpekcoodaaGreatDoor
