/-
  ValuesSets: the law's contract.
-/
import Derived.Test.YtlniokpekcoodaaGreatDoorRSet
import Derived.Test.YtlniokpekcoodaaGreatDoorQuotedM
import Derived.Test.YtlniokpekcoodaaGreatDoorCParseNM
set_option linter.unusedVariables false
set_option linter.unusedSimpArgs false
namespace Go.Proofs.YtlniokpekcoodaaGreatDoor
open Go.RowKit

def strT (s : ByteArray) : T := .mk 3 false 0 s [] []
/-- Set at a path that is joined of words, with a text in quotes. -/
theorem set_text {w0 : World} {R : Nat → Prop} {t : T} {cs : Array Value} {ks : List ByteArray} {p : ByteArray} (h : Lies w0 R t cs) (hts : t.size ≤ 900000) (hp : PathOf ks p) (hpz : p.size ≤ 100000) (tx qq : ByteArray) (htx : tx.size ≤ 500) (hqz : qq.size ≤ 100000) (w : World) (hw : Below w0.heap.size w0 w) (m : Int) (hm : w.cell? ⟨0, 0, none⟩ = some (.int .i64 m)) (h0 : 0 < w.heap.size)
    (HQ : ∀ w1, Below w.heap.size w w1 → Calls Tryz.prog 19 #[.string qq] w1 (ParseTo w1 #[.int .i64 3, .bool false, .int .i64 0, .string tx, .slice none 0 0, .slice none 0 0] 0)) :
    Calls Tryz.prog 10 #[.agg cs, .string (p ++ ⟨#[61]⟩ ++ qq)] w (SetIn w (overC (T.over t (pathU ks (strT tx))))) := by
  have := vSet_any h hts w hw (p ++ ⟨#[61]⟩ ++ qq) p qq true (by rw [ByteArray.size_append, ByteArray.size_append, show (⟨#[61]⟩ : ByteArray).size = 1 from rfl]; omega) (hp.cut _) m hm h0
    3 false 0 tx 0 (by decide) (by decide) (by omega) (by omega) (fun _ w1 hb => HQ w1 hb)
  rw [hp.setR] at this
  exact this

set_option maxRecDepth 100000 in
set_option maxHeartbeats 16000000 in
theorem valuesSets_any {w : World} {R : Nat → Prop} {t : T} {cs : Array Value} {ks : List ByteArray} {sa : Option Addr} {sc : Nat} (h : Lies w R t cs) (s : ByteArray) (hs47 : s.size ≤ 140737488355328) (hS : SliceS w ks sa sc) (tx : ByteArray) (ht47 : tx.size ≤ 140737488355328) (m : Int) (hm : w.cell? ⟨0, 0, none⟩ = some (.int .i64 m)) (h0 : 0 < w.heap.size) (ev : Value) (hc1 : w.cell? ⟨2, 0, none⟩ = some ev) (hev : ev = .nilIface ∨ ∃ te pe, ev = .iface te pe) (hw1 : 2 < w.heap.size) :
    Calls Tryz.prog 3 #[.agg cs, .string s, .slice sa ks.length sc, .string tx] w fun e w' => e = .returned (.bool true) ∧ Below w.heap.size w w' := by
  have AW : Hid (∀ w1, Below w.heap.size w w1 → Calls Tryz.prog 8 #[] w1 fun e w' => e = .returned (.bool true) ∧ Below w1.heap.size w1 w') := fun w1 hb => l11awake_any w1 m ((hb.cell (p := ⟨0, 0, none⟩) h0).trans hm) (Nat.lt_of_lt_of_le h0 hb.size)
  have CM : Hid (∀ w1, Below w.heap.size w w1 → w1.cell? ⟨0, 0, none⟩ = some (.int .i64 m) ∧ 0 < w1.heap.size) := fun w1 hb => ⟨(hb.cell (p := ⟨0, 0, none⟩) h0).trans hm, Nat.lt_of_lt_of_le h0 hb.size⟩
  obtain ⟨c0, c1, c2, c3, c4, c4l, c4c, c5, c5l, c5c, rfl⟩ := h.six
  have H := Lib.hid h
  have HS := Lib.hid hS
  have hle := hS.le
  have hbig := hS.big
  have hb1 : Below w.heap.size w (w.alloc (.cells #[.int .i64 c0, .bool c1, .int .i64 c2, .string c3, .slice c4 c4l c4c, .slice c5 c5l c5c] 25)) := (Below.refl _ _).alloc (Nat.le_refl _) _
  have BX := Lib.hid (Box6.new w #[.int .i64 c0, .bool c1, .int .i64 c2, .string c3, .slice c4 c4l c4c, .slice c5 c5l c5c] 25)
  have hs1 : w.heap.size < (w.alloc (.cells #[.int .i64 c0, .bool c1, .int .i64 c2, .string c3, .slice c4 c4l c4c, .slice c5 c5l c5c] 25)).heap.size := by simp
  have RG := Lib.hid (fun w1 hb => l11right_any h w1 hb)
  have TA := Lib.hid (fun w1 => rText_any tx (by omega) w1)
  have HB1 := Lib.hid hb1
  have HS1 := Lib.hid hs1
  clear h hS hb1 hs1
  generalize hgb : (t.good && decide (t.kind = 5)) = gb at RG
  cases gb with
  | false =>
    clear hgb
    go_enter Tryz.func3, Tryz.ntmps3
    go_upto_region 1 with fail
    generalize w.alloc (.cells #[.int .i64 c0, .bool c1, .int .i64 c2, .string c3, .slice c4 c4l c4c, .slice c5 c5l c5c] 25) = v at *
    obtain ⟨x0, x1, x2, x3, x4, x5⟩ := BX.out.six
    go_wp2_with (first
      | (go_at_call 6; refine (RG.out _ HB1.out).mono ?_; rintro e u1 ⟨rfl, hb⟩; have HB2b := Lib.hid hb; have HB2 := Lib.hid (bstep HB1.out hb HB1.out.size); clear hb)
      | (go_at_call 7; refine (TA.out _).mono ?_; rintro e w1t ⟨rfl, hwt⟩; subst hwt)
      | (go_at_call 8; refine (AW.out _ HB2.out).mono ?_; rintro e w2 ⟨rfl, hb2⟩))
    go_ret
    exact ⟨rfl, bstep HB2.out hb2 HB2.out.size⟩
  | true =>
  simp only [Bool.and_eq_true] at hgb
  have HTP := Lib.hid (good_parts hgb.1)
  have HTZ := Lib.hid (good_sz hgb.1)
  clear hgb
  by_cases hs5 : s.size ≤ 500
  case neg =>
    have g1 : ((s.size : Int) > 500) := by omega
    have g2 : decide ((500 : Int) < (s.size : Int)) = true := decide_eq_true g1
    go_enter Tryz.func3, Tryz.ntmps3
    go_upto_region 1 with fail
    generalize w.alloc (.cells #[.int .i64 c0, .bool c1, .int .i64 c2, .string c3, .slice c4 c4l c4c, .slice c5 c5l c5c] 25) = v at *
    obtain ⟨x0, x1, x2, x3, x4, x5⟩ := BX.out.six
    go_wp2_with (first
      | (go_at_call 6; refine (RG.out _ HB1.out).mono ?_; rintro e u1 ⟨rfl, hb⟩; have HB2b := Lib.hid hb; have HB2 := Lib.hid (bstep HB1.out hb HB1.out.size); clear hb)
      | (go_at_call 7; refine (TA.out _).mono ?_; rintro e w1t ⟨rfl, hwt⟩; subst hwt)
      | (go_at_call 8; refine (AW.out _ HB2.out).mono ?_; rintro e w2 ⟨rfl, hb2⟩))
    go_ret
    exact ⟨rfl, bstep HB2.out hb2 HB2.out.size⟩
  have g1 : ¬ ((s.size : Int) > 500) := by omega
  have g2 : decide ((500 : Int) < (s.size : Int)) = false := decide_eq_false g1
  by_cases hl0 : ks.length = 0
  case pos =>
    have g3 : ((ks.length : Int) == 0) = true := by rw [hl0]; rfl
    go_enter Tryz.func3, Tryz.ntmps3
    go_upto_region 1 with fail
    generalize w.alloc (.cells #[.int .i64 c0, .bool c1, .int .i64 c2, .string c3, .slice c4 c4l c4c, .slice c5 c5l c5c] 25) = v at *
    obtain ⟨x0, x1, x2, x3, x4, x5⟩ := BX.out.six
    go_wp2_with (first
      | (go_at_call 6; refine (RG.out _ HB1.out).mono ?_; rintro e u1 ⟨rfl, hb⟩; have HB2b := Lib.hid hb; have HB2 := Lib.hid (bstep HB1.out hb HB1.out.size); clear hb)
      | (go_at_call 7; refine (TA.out _).mono ?_; rintro e w1t ⟨rfl, hwt⟩; subst hwt)
      | (go_at_call 8; refine (AW.out _ HB2.out).mono ?_; rintro e w2 ⟨rfl, hb2⟩))
    go_ret
    exact ⟨rfl, bstep HB2.out hb2 HB2.out.size⟩
  have g3 : ((ks.length : Int) == 0) = false := by rw [beq_eq_false_iff_ne]; omega
  by_cases hl8 : ks.length ≤ 8
  case neg =>
    have g4 : ((ks.length : Int) > 8) := by omega
    have g5 : decide ((8 : Int) < (ks.length : Int)) = true := decide_eq_true g4
    go_enter Tryz.func3, Tryz.ntmps3
    go_upto_region 1 with fail
    generalize w.alloc (.cells #[.int .i64 c0, .bool c1, .int .i64 c2, .string c3, .slice c4 c4l c4c, .slice c5 c5l c5c] 25) = v at *
    obtain ⟨x0, x1, x2, x3, x4, x5⟩ := BX.out.six
    go_wp2_with (first
      | (go_at_call 6; refine (RG.out _ HB1.out).mono ?_; rintro e u1 ⟨rfl, hb⟩; have HB2b := Lib.hid hb; have HB2 := Lib.hid (bstep HB1.out hb HB1.out.size); clear hb)
      | (go_at_call 7; refine (TA.out _).mono ?_; rintro e w1t ⟨rfl, hwt⟩; subst hwt)
      | (go_at_call 8; refine (AW.out _ HB2.out).mono ?_; rintro e w2 ⟨rfl, hb2⟩))
    go_ret
    exact ⟨rfl, bstep HB2.out hb2 HB2.out.size⟩
  have g4 : ¬ ((ks.length : Int) > 8) := by omega
  have g5 : decide ((8 : Int) < (ks.length : Int)) = false := decide_eq_false g4
  by_cases ht5 : tx.size ≤ 500
  case neg =>
    have g6 : ((tx.size : Int) > 500) := by omega
    have g7 : decide ((500 : Int) < (tx.size : Int)) = true := decide_eq_true g6
    go_enter Tryz.func3, Tryz.ntmps3
    go_upto_region 1 with fail
    generalize w.alloc (.cells #[.int .i64 c0, .bool c1, .int .i64 c2, .string c3, .slice c4 c4l c4c, .slice c5 c5l c5c] 25) = v at *
    obtain ⟨x0, x1, x2, x3, x4, x5⟩ := BX.out.six
    go_wp2_with (first
      | (go_at_call 6; refine (RG.out _ HB1.out).mono ?_; rintro e u1 ⟨rfl, hb⟩; have HB2b := Lib.hid hb; have HB2 := Lib.hid (bstep HB1.out hb HB1.out.size); clear hb)
      | (go_at_call 7; refine (TA.out _).mono ?_; rintro e w1t ⟨rfl, hwt⟩; subst hwt)
      | (go_at_call 8; refine (AW.out _ HB2.out).mono ?_; rintro e w2 ⟨rfl, hb2⟩))
    go_ret
    exact ⟨rfl, bstep HB2.out hb2 HB2.out.size⟩
  have g6 : ¬ ((tx.size : Int) > 500) := by omega
  have g7 : decide ((500 : Int) < (tx.size : Int)) = false := decide_eq_false g6
  obtain ⟨tb, htb⟩ : ∃ tb, tb = textB tx := ⟨_, rfl⟩
  rw [← htb] at TA
  clear htb
  cases tb with
  | false =>
    go_enter Tryz.func3, Tryz.ntmps3
    go_upto_region 1 with fail
    generalize w.alloc (.cells #[.int .i64 c0, .bool c1, .int .i64 c2, .string c3, .slice c4 c4l c4c, .slice c5 c5l c5c] 25) = v at *
    obtain ⟨x0, x1, x2, x3, x4, x5⟩ := BX.out.six
    go_wp2_with (first
      | (go_at_call 6; refine (RG.out _ HB1.out).mono ?_; rintro e u1 ⟨rfl, hb⟩; have HB2b := Lib.hid hb; have HB2 := Lib.hid (bstep HB1.out hb HB1.out.size); clear hb)
      | (go_at_call 7; refine (TA.out _).mono ?_; rintro e w1t ⟨rfl, hwt⟩; subst hwt)
      | (go_at_call 8; refine (AW.out _ HB2.out).mono ?_; rintro e w2 ⟨rfl, hb2⟩))
    go_ret
    exact ⟨rfl, bstep HB2.out hb2 HB2.out.size⟩
  | true =>
  obtain ⟨sp, sq, found, hsplit, hspz, hsqz⟩ := split_ex s
  have QT := Lib.hid (fun w1 => r11Quoted_any hsplit (by omega) w1)
  obtain ⟨k', b', n', x', c, ⟨q1, q2, q3, q4, q5⟩, PC, PR⟩ := parse_both sq (by omega)
  have hn' : (Lit.int .i64 n').wf = true := (Lit.wf_int_iff _ _).2 ⟨q4, q5⟩
  have hk' : (Lit.int .i64 k').wf = true := (Lit.wf_int_iff _ _).2 ⟨by show (-9223372036854775808 : Int) ≤ k'; omega, by show k' ≤ (9223372036854775807 : Int); omega⟩
  obtain ⟨rS, hrS⟩ : ∃ rS, rS = setR t found sp.data.toList (.mk k' b' n' x' [] []) c := ⟨_, rfl⟩
  have SETV : Hid ((found && quotedB sq.data.toList) = false → ∀ w1, Below w.heap.size w w1 → Calls Tryz.prog 10 #[.agg #[.int .i64 c0, .bool c1, .int .i64 c2, .string c3, .slice c4 c4l c4c, .slice c5 c5l c5c], .string s] w1 (SetIn w1 rS)) := fun hq w1 hb1 => by
    rw [hrS]
    refine vSet_any H.out (by have := HTZ.out; omega) w1 hb1 s sp sq found (by omega) hsplit.cut m (CM.out w1 hb1).1 (CM.out w1 hb1).2 k' b' n' x' c hk' hn' (by omega) (by omega) (fun hf w2 hb2 => vWord_bare sq (by rw [hf] at hq; simpa using hq) k' b' n' x' c w2 (fun w3 hb3 => ?_))
    have hb := bstep (bstep hb1 hb2 hb1.size) hb3 (bstep hb1 hb2 hb1.size).size
    exact PC w3 ev ((hb.cell (p := ⟨2, 0, none⟩) hw1).trans hc1) hev (Nat.lt_of_lt_of_le hw1 hb.size)
  have SETR : Hid (∀ w1, Below w.heap.size w w1 → Calls Tryz.prog 11 #[.agg #[.int .i64 c0, .bool c1, .int .i64 c2, .string c3, .slice c4 c4l c4c, .slice c5 c5l c5c], .string s] w1 (RSetIn w1 rS)) := fun w1 hb1 => by
    rw [hrS]
    exact r11Set_any H.out (by have := HTZ.out; omega) w1 hb1 s sp sq found (by omega) hsplit k' b' n' x' c hk' hn' (by omega) (by omega) PR
  obtain ⟨rSt, rSc⟩ := rS
  -- what the loops need
  have WQ : Hid (∀ w1, Below w.heap.size w w1 → Calls Tryz.prog 19 #[.string ⟨(quoteL tx.data.toList).toArray⟩] w1 (ParseTo w1 #[.int .i64 3, .bool false, .int .i64 0, .string tx, .slice none 0 0, .slice none 0 0] 0)) := fun w1 hb => word_quote tx (by omega) m w1 (CM.out w1 hb).1 (CM.out w1 hb).2
  have WG : Hid (∀ w1, Below w.heap.size w w1 → Calls Tryz.prog 19 #[.string ⟨(singleL tx.data.toList).toArray⟩] w1 (ParseTo w1 #[.int .i64 3, .bool false, .int .i64 0, .string tx, .slice none 0 0, .slice none 0 0] 0)) := fun w1 hb => word_single tx (by omega) m w1 (CM.out w1 hb).1 (CM.out w1 hb).2
  have RQ : Hid (∀ w1, Calls Tryz.prog 16 #[.string tx] w1 fun e w' => e = .returned (.string ⟨(quoteL tx.data.toList).toArray⟩) ∧ w' = w1) := fun w1 => r4Quote_any tx (by omega) w1
  have RS : Hid (∀ w1, Calls Tryz.prog 17 #[.string tx] w1 fun e w' => e = .returned (.string ⟨(singleL tx.data.toList).toArray⟩) ∧ w' = w1) := fun w1 => r4Single_any tx (by omega) w1
  have hq1z := quoteZ tx
  have hq2z := singleZ tx
  generalize (⟨(quoteL tx.data.toList).toArray⟩ : ByteArray) = qa at WQ RQ hq1z
  generalize (⟨(singleL tx.data.toList).toArray⟩ : ByteArray) = qb at WG RS hq2z
  have HQAZ : Hid (qa.size ≤ 1002) := by show _ ≤ _; omega
  have HQBZ : Hid (qb.size ≤ 1002) := by show _ ≤ _; omega
  have WX : Hid (∀ w1, Below w.heap.size w w1 → Calls Tryz.prog 19 #[.string ⟨#[39, 97, 39, 32, 98]⟩] w1 (ParseTo w1 #[.int .i64 0, .bool false, .int .i64 0, .string ⟨#[]⟩, .slice none 0 0, .slice none 0 0] 10)) := fun w1 hb =>
    vWord_quoted ⟨#[39, 97, 39, 32, 98]⟩ (by decide) (by kernel_rfl) m w1 (CM.out w1 hb).1 (CM.out w1 hb).2 0 ⟨#[]⟩ 10 (by kernel_rfl)
  obtain ⟨U, hU⟩ : ∃ U, U = putL ks T.none5 (strT tx) := ⟨_, rfl⟩
  have hzz := putL_size ks T.none5 (strT tx)
  have hz5 : T.none5.size = 1 := by rw [T.none5, T.size_mk]; rfl
  have HZ5 := Lib.hid hz5
  have hz1 : (strT tx).size = 1 := by rw [strT, T.size_mk]; rfl
  rw [hz5, hz1, ← hU] at hzz
  have HUU : Hid (putQ ks T.none5 (strT tx) = U) := by show _ = _; rw [hU]; exact putQ_put _ _ _ none5_parts
  have HUP : Hid (U = pathU ks (strT tx)) := by show _ = _; rw [hU]; exact put_five _ _
  have HUS : Hid (U.size ≤ 1000000) := by show _ ≤ _; omega
  have HTS : Hid (t.size ≤ 1000000) := by have := HTZ.out; show _ ≤ _; omega
  obtain ⟨O, hO⟩ : ∃ O, O = T.over t U := ⟨_, rfl⟩
  have hoz : O.size ≤ 4611686018427387904 := by rw [hO]; have := over_sz U t; have := HTS.out; have := HUS.out; omega
  have HOO := Lib.hid hO
  have HOZ := Lib.hid hoz
  obtain ⟨ck, hck⟩ : ∃ ck, ck = O.check := ⟨_, rfl⟩
  have HCK := Lib.hid hck
  obtain ⟨rt, rc, hrt⟩ : ∃ rt rc, (rt, rc) = overC O := ⟨_, _, rfl⟩
  have HRT : Hid ((ck = 0 → rt = O ∧ rc = 0) ∧ (ck ≠ 0 → rc = ck)) := by
    refine ⟨fun e => ?_, fun e => ?_⟩
    · rw [overC, if_pos (by rw [← hck]; exact e)] at hrt
      exact Prod.mk.inj hrt
    · rw [overC, if_neg (by rw [← hck]; exact e), ← hck] at hrt
      exact (Prod.mk.inj hrt).2
  have HRO := Lib.hid hrt
  clear hsplit PC PR hn' hk' hrS hm hc1 hev hz5 hz1 hzz hU hO hoz hck hrt hspz hsqz hq1z hq2z q1 q2 q3 q4 q5
  obtain ⟨qd, hqd⟩ : ∃ qd, qd = (found && quotedB sq.data.toList) := ⟨_, rfl⟩
  rw [← hqd] at QT SETV
  clear hqd
  cases qd with
  | true =>
    go_enter Tryz.func3, Tryz.ntmps3
    go_upto_region 1 with fail
    generalize w.alloc (.cells #[.int .i64 c0, .bool c1, .int .i64 c2, .string c3, .slice c4 c4l c4c, .slice c5 c5l c5c] 25) = v at *
    obtain ⟨x0, x1, x2, x3, x4, x5⟩ := BX.out.six
    go_upto_region 3 with (first
      | (go_at_call 6; refine (RG.out _ HB1.out).mono ?_; rintro e u1 ⟨rfl, hb⟩; have HB2b := Lib.hid hb; have HB2 := Lib.hid (bstep HB1.out hb HB1.out.size); clear hb)
      | (go_at_call 7; refine (TA.out _).mono ?_; rintro e w1t ⟨rfl, hwt⟩; subst hwt))
    have BX2 := Lib.hid (BX.out.later HB2b.out HS1.out)
    have hs2 := Nat.lt_of_lt_of_le HS1.out HB2b.out.size
    have HS2 := Lib.hid hs2
    clear x0 x1 x2 x3 x4 x5 hs2
    go_wp2_with (go_at_call 9; refine (QT.out _).mono ?_; rintro e w1q ⟨rfl, hwq⟩; have hwq2 := hwq.symm; subst hwq2)
    have HW6 := HB2
    have HX6 := BX2
    have HK6 := Lib.hid (HS.out.later HW6.out)
    have HWS : Hid (w.heap.size < u1.heap.size) := HS2.out
    go_loop [13, 79] (fun v13 vi => ∃ j : Nat, j ≤ ks.length ∧ vi = .int .i64 j ∧ v13 = .string (joinB ks j) ∧ Hid (∀ i (h : i < ks.length), i < j → wordL ks[i].data.toList = true)) (fun _ vi => ks.length - (intOf vi).toNat)
    case atStart => exact ⟨0, Nat.zero_le _, rfl, rfl, fun i h hi => absurd hi (Nat.not_lt_zero i)⟩
    case round =>
      obtain ⟨j, hj, rfl, rfl, hwd⟩ := hrel
      have HWD := Lib.hid hwd
      clear hwd
      by_cases hjl : j < ks.length
      · obtain ⟨bb, oo, rfl⟩ := HK6.out.ofSome (by omega)
        have r0 := HK6.out.cell j hjl bb oo rfl
        have HC := Lib.hid (r2Word_any ks[j] (HK6.out.sizes j hjl))
        have hjb := joinB_size ks j (fun i hi hij => by have := (word_len (HWD.out.out i hi hij)).2; rw [Lib.size_eq]; omega) hj
        cases hwj : wordL ks[j].data.toList with
        | false =>
          rw [hwj] at HC
          clear hwj
          go_wp2_with (first
            | (go_at_call 13; refine (HC.out _).mono ?_; rintro e w9 ⟨rfl, hw9⟩; have hw92 := hw9.symm; subst hw92)
            | (go_at_call 8; refine (AW.out _ HW6.out).mono ?_; rintro e w4a ⟨rfl, hb2⟩))
          go_ret
          exact ⟨rfl, bstep HW6.out hb2 HW6.out.size⟩
        | true =>
          rw [hwj] at HC
          have HWJ := Lib.hid hwj
          have hkz : ks[j].size ≤ 256 := by have := (word_len hwj).2; rw [Lib.size_eq]; omega
          clear hwj
          have HW1 : Hid (∀ i (h : i < ks.length), i < j + 1 → wordL ks[i].data.toList = true) := fun i h hi => by
            by_cases e : i = j
            · subst e; exact HWJ.out
            · exact HWD.out.out i h (by omega)
          obtain ⟨JB, hJB⟩ : ∃ JB, JB = joinB ks j := ⟨_, rfl⟩
          rw [← hJB] at hjb ⊢
          have HJB := Lib.hid hJB
          clear hJB
          have hjz : JB.size ≤ 3000 := by omega
          clear hjb
          have e46 : (⟨#[46]⟩ : ByteArray).size = 1 := rfl
          by_cases hj0 : j = 0
          · have g8 : ¬ ((j : Int) > 0) := by omega
            have HJ0 := Lib.hid hj0
            clear hj0
            go_wp2_with (go_at_call 13; refine (HC.out _).mono ?_; rintro e w9 ⟨rfl, hw9⟩; have hw92 := hw9.symm; subst hw92)
            go_round
            case rel => exact ⟨j + 1, by omega, by go_num, by rw [HJB.out, joinB, if_pos HJ0.out, getD_at hjl], HW1.out⟩
            case measure => simp [intOf]; omega
          · have g8 : ((j : Int) > 0) := by omega
            go_wp2_with (go_at_call 13; refine (HC.out _).mono ?_; rintro e w9 ⟨rfl, hw9⟩; have hw92 := hw9.symm; subst hw92)
            go_round
            case rel => exact ⟨j + 1, by omega, by go_num, by rw [HJB.out, joinB, if_neg hj0, getD_at hjl], HW1.out⟩
            case measure => simp [intOf]; omega
      · obtain rfl : j = ks.length := by omega
        have hpath := joinB_path (fun i h => HWD.out.out i h h) (fun e => by rw [e] at hl0; exact hl0 rfl) (by omega)
        have hpz := joinB_size ks ks.length (fun i hi hij => by have := (word_len (HWD.out.out i hi hij)).2; rw [Lib.size_eq]; omega) (Nat.le_refl _)
        have hpz2 : (joinB ks ks.length).size ≤ 2100 := by omega
        obtain ⟨P, hP⟩ : ∃ P, P = joinB ks ks.length := ⟨_, rfl⟩
        rw [← hP] at hpath hpz2 ⊢
        have HPATH := Lib.hid hpath
        have HPZ := Lib.hid hpz2
        clear hpath hpz hpz2 hP
        obtain ⟨x0, x1, x2, x3, x4, x5⟩ := HX6.out.six
        have HC6 : Hid (Lies u1 (fun b => b < u1.heap.size) t #[.int .i64 c0, .bool c1, .int .i64 c2, .string c3, .slice c4 c4l c4c, .slice c5 c5l c5c]) := (H.out.later HW6.out).bound.weaken fun b hb => hb.2
        have PUT : Hid (∀ w1, Below u1.heap.size u1 w1 → Calls Tryz.prog 15 #[.agg #[.int .i64 5, .bool false, .int .i64 0, .string ⟨#[]⟩, .slice none 0 0, .slice none 0 0], .agg #[.int .i64 3, .bool false, .int .i64 0, .string tx, .slice none 0 0, .slice none 0 0], .slice sa ks.length sc] w1 (Laid u1 w1 U)) := fun w1 hb => by
          rw [← HUU.out]
          exact r2Put_any ks (none5_lies u1 (fun _ => True)) (leafV u1 3 false 0 tx (by decide) (by decide) (by omega)) HK6.out (by rw [HZ5.out]; omega) w1 hb
        go_upto_region 18 with fail
        refine wp_region_specsO u1 8 7 (fun i => match i with | 0 => 96 | 1 => 97 | 2 => 98 | 3 => 99 | 4 => 100 | 5 => 101 | 6 => 102 | 7 => 16 | _ => 0) (fun i x wx => match i with | 0 => x = .agg #[.int .i64 c0, .bool c1, .int .i64 c2, .string c3, .slice c4 c4l c4c, .slice c5 c5l c5c] | 1 => x = .agg #[.int .i64 5, .bool false, .int .i64 0, .string ⟨#[]⟩, .slice none 0 0, .slice none 0 0] | 2 => x = .string tx | 3 => x = .agg #[.int .i64 3, .bool false, .int .i64 0, .string tx, .slice none 0 0, .slice none 0 0] | 4 => x = .slice sa ks.length sc | 5 => ∃ (f0 : Int) (f1 : Bool) (f2 : Int) (f3 : ByteArray) (f4 : Option Addr) (f4l f4c : Nat) (f5 : Option Addr) (f5l f5c : Nat), x = .agg #[.int .i64 f0, .bool f1, .int .i64 f2, .string f3, .slice f4 f4l f4c, .slice f5 f5l f5c] ∧ Lies wx (fun b => True) U #[.int .i64 f0, .bool f1, .int .i64 f2, .string f3, .slice f4 f4l f4c, .slice f5 f5l f5c] | 6 => ∃ (f0 : Int) (f1 : Bool) (f2 : Int) (f3 : ByteArray) (f4 : Option Addr) (f4l f4c : Nat) (f5 : Option Addr) (f5l f5c : Nat), x = .agg #[.int .i64 f0, .bool f1, .int .i64 f2, .string f3, .slice f4 f4l f4c, .slice f5 f5l f5c] ∧ Lies wx (fun b => True) O #[.int .i64 f0, .bool f1, .int .i64 f2, .string f3, .slice f4 f4l f4c, .slice f5 f5l f5c] | 7 => ∃ g : Nat, x = .pointer (some ⟨g, 0, none⟩) ∧ ZB wx g ∧ u1.heap.size ≤ g | _ => True) (fun i x yv wx => match i with | 5 => ∀ g, yv = .pointer (some ⟨g, 0, none⟩) → ∃ (f0 : Int) (f1 : Bool) (f2 : Int) (f3 : ByteArray) (f4 : Option Addr) (f4l f4c : Nat) (f5 : Option Addr) (f5l f5c : Nat), x = .agg #[.int .i64 f0, .bool f1, .int .i64 f2, .string f3, .slice f4 f4l f4c, .slice f5 f5l f5c] ∧ Lies wx (fun b => b ≠ g) U #[.int .i64 f0, .bool f1, .int .i64 f2, .string f3, .slice f4 f4l f4c, .slice f5 f5l f5c] | 6 => ∀ g, yv = .pointer (some ⟨g, 0, none⟩) → ∃ (f0 : Int) (f1 : Bool) (f2 : Int) (f3 : ByteArray) (f4 : Option Addr) (f4l f4c : Nat) (f5 : Option Addr) (f5l f5c : Nat), x = .agg #[.int .i64 f0, .bool f1, .int .i64 f2, .string f3, .slice f4 f4l f4c, .slice f5 f5l f5c] ∧ Lies wx (fun b => b ≠ g) O #[.int .i64 f0, .bool f1, .int .i64 f2, .string f3, .slice f4 f4l f4c, .slice f5 f5l f5c] | _ => True) (fun x wx => ∃ (g : Nat) (f0 : Int) (f1 : Bool) (f2 : Int) (f3 : ByteArray) (f4 : Option Addr) (f4l f4c : Nat) (f5 : Option Addr) (f5l f5c : Nat), x = .pointer (some ⟨g, 0, none⟩) ∧ Hid (Box6 wx g #[.int .i64 f0, .bool f1, .int .i64 f2, .string f3, .slice f4 f4l f4c, .slice f5 f5l f5c]) ∧ Hid (Lies wx (fun _ => True) O #[.int .i64 f0, .bool f1, .int .i64 f2, .string f3, .slice f4 f4l f4c, .slice f5 f5l f5c]) ∧ u1.heap.size ≤ g ∧ g < wx.heap.size ∧ Below u1.heap.size u1 wx) (by kernel_rfl) (by kernel_rfl) ?s1 (by decide) (Below.refl _ _) ?s2 ?n1 (fun _ _ _ => trivial) ?s5 ?s7 ?s9
        case s1 => intro i hi; rcases (by omega : i = 0 ∨ i = 1 ∨ i = 2 ∨ i = 3 ∨ i = 4 ∨ i = 5 ∨ i = 6 ∨ i = 7) with rfl | rfl | rfl | rfl | rfl | rfl | rfl | rfl <;> exact Nat.lt_of_lt_of_le (by decide : _ < 152) (Nat.le_refl 152)
        case s2 =>
          intro i x w1 w2 hb hU
          match i, hU with
          | 5, ⟨f0, f1, f2, f3, f4, f4l, f4c, f5, f5l, f5c, e, hl⟩ => exact ⟨f0, f1, f2, f3, f4, f4l, f4c, f5, f5l, f5c, e, hl.later hb⟩
          | 6, ⟨f0, f1, f2, f3, f4, f4l, f4c, f5, f5l, f5c, e, hl⟩ => exact ⟨f0, f1, f2, f3, f4, f4l, f4c, f5, f5l, f5c, e, hl.later hb⟩
          | 7, ⟨g, e, hz, hg⟩ => exact ⟨g, e, hz.later hb, hg⟩
          | 0, h | 1, h | 2, h | 3, h | 4, h => exact h
          | (k + 8), _ => trivial
        case n1 =>
          intro i x y w1 w2 hi hb hN
          match i, hN with
          | 5, h => exact fun g e => by obtain ⟨f0, f1, f2, f3, f4, f4l, f4c, f5, f5l, f5c, e2, hl⟩ := h g e; exact ⟨f0, f1, f2, f3, f4, f4l, f4c, f5, f5l, f5c, e2, hl.later hb⟩
          | 6, h => exact fun g e => by obtain ⟨f0, f1, f2, f3, f4, f4l, f4c, f5, f5l, f5c, e2, hl⟩ := h g e; exact ⟨f0, f1, f2, f3, f4, f4l, f4c, f5, f5l, f5c, e2, hl.later hb⟩
          | 0, _ | 1, _ | 2, _ | 3, _ | 4, _ | 7, _ => trivial
          | (k + 8), _ => trivial
        case s5 =>
          intro i o ac wb K' ho hi hA hB hdep hK
          have sv4 : ac.tmps[4]?.getD undef = .pointer (some ⟨w.heap.size, 0, none⟩) := hA.sl (t := 4) (by decide)
          have sv3 : ac.tmps[3]?.getD undef = .string tx := hA.sl (t := 3) (by decide)
          have sv2 : ac.tmps[2]?.getD undef = .slice sa ks.length sc := hA.sl (t := 2) (by decide)
          have x0 := cells_frame hB x0
          have x1 := cells_frame hB x1
          have x2 := cells_frame hB x2
          have x3 := cells_frame hB x3
          have x4 := cells_frame hB x4
          have x5 := cells_frame hB x5
          rcases (by omega : i = 0 ∨ i = 1 ∨ i = 2 ∨ i = 3 ∨ i = 4 ∨ i = 5 ∨ i = 6 ∨ i = 7) with rfl | rfl | rfl | rfl | rfl | rfl | rfl | rfl
          · simp at ho
            subst ho
            clear hdep hA
            go_simp
            exact hK _ wb (Below.refl _ _) rfl (fun _ _ _ _ => trivial) (fun e => absurd e (by decide))
          · simp at ho
            subst ho
            clear hdep hA
            go_simp
            exact hK _ wb (Below.refl _ _) rfl (fun _ _ _ _ => trivial) (fun e => absurd e (by decide))
          · simp at ho
            subst ho
            clear hdep hA
            go_simp
            exact hK _ wb (Below.refl _ _) rfl (fun _ _ _ _ => trivial) (fun e => absurd e (by decide))
          · simp at ho
            subst ho
            have z2 : ac.tmps[98]?.getD undef = .string tx := hdep { on := 2, ground := .data } (by simp) rfl
            clear hdep hA
            go_simp
            exact hK _ wb (Below.refl _ _) rfl (fun _ _ _ _ => trivial) (fun e => absurd e (by decide))
          · simp at ho
            subst ho
            clear hdep hA
            go_simp
            exact hK _ wb (Below.refl _ _) rfl (fun _ _ _ _ => trivial) (fun e => absurd e (by decide))
          · simp at ho
            subst ho
            have z1 : ac.tmps[97]?.getD undef = .agg #[.int .i64 5, .bool false, .int .i64 0, .string ⟨#[]⟩, .slice none 0 0, .slice none 0 0] := hdep { on := 1, ground := .data } (by simp) rfl
            have z3 : ac.tmps[99]?.getD undef = .agg #[.int .i64 3, .bool false, .int .i64 0, .string tx, .slice none 0 0, .slice none 0 0] := hdep { on := 3, ground := .data } (by simp) rfl
            have z4 : ac.tmps[100]?.getD undef = .slice sa ks.length sc := hdep { on := 4, ground := .data } (by simp) rfl
            clear hdep hA
            go_simp
            refine (PUT.out wb hB).mono ?_
            rintro e w5 ⟨es, rfl, hl, hb5⟩
            obtain ⟨f0, f1, f2, f3, f4, f4l, f4c, f5, f5l, f5c, rfl⟩ := hl.six
            refine hK _ w5 hb5 ⟨f0, f1, f2, f3, f4, f4l, f4c, f5, f5l, f5c, rfl, hl.weaken fun b hb => trivial⟩ (fun _ y hy _ g e => ⟨f0, f1, f2, f3, f4, f4l, f4c, f5, f5l, f5c, rfl, hl.weaken fun b hb => ?_⟩) (fun e => absurd e (by decide))
            obtain ⟨g2, hy2, hz2, hg2⟩ := hy
            rw [e] at hy2
            injection hy2 with hy2
            injection hy2 with hy2
            injection hy2 with hy2
            have := hz2.lt
            omega
          · simp at ho
            subst ho
            have z0 : ac.tmps[96]?.getD undef = .agg #[.int .i64 c0, .bool c1, .int .i64 c2, .string c3, .slice c4 c4l c4c, .slice c5 c5l c5c] := hdep { on := 0, ground := .data } (by simp) rfl
            obtain ⟨f0, f1, f2, f3, f4, f4l, f4c, f5, f5l, f5c, zp, hl⟩ := hdep { on := 5, ground := .data } (by simp) rfl
            have zp : ac.tmps[101]?.getD undef = .agg #[.int .i64 f0, .bool f1, .int .i64 f2, .string f3, .slice f4 f4l f4c, .slice f5 f5l f5c] := zp
            clear hdep hA
            go_simp
            have hlz := hl.least
            have RO := rOver_any hlz (HC6.out.later hB) wb (Below.refl _ _) HTS.out HUS.out
            rw [← HOO.out] at RO
            refine RO.mono ?_
            rintro e w5 ⟨es, rfl, hl5, hb5⟩
            obtain ⟨k0, k1, k2, k3, k4, k4l, k4c, k5, k5l, k5c, rfl⟩ := hl5.six
            refine hK _ w5 hb5 ⟨k0, k1, k2, k3, k4, k4l, k4c, k5, k5l, k5c, rfl, hl5.weaken fun b hb => trivial⟩ (fun _ y hy hd g e => ?_) (fun e => absurd e (by decide))
            obtain ⟨h0, h1, h2, h3, h4, h4l, h4c, h5, h5l, h5c, e2, hl2⟩ := hd { on := 5, ground := .data } (by simp) rfl g e
            have e3 := (show ac.tmps[101]?.getD undef = _ from e2).symm.trans zp
            cases e3
            refine ⟨k0, k1, k2, k3, k4, k4l, k4c, k5, k5l, k5c, rfl, hl5.weaken fun b hb => ?_⟩
            obtain ⟨g2, hy2, hz2, hg2⟩ := hy
            rw [e] at hy2
            injection hy2 with hy2
            injection hy2 with hy2
            injection hy2 with hy2
            have := hz2.lt
            rcases hb with ⟨hb | hb, _⟩ | hb
            · omega
            · exact hb _ hl2
            · omega
          · simp at ho
            subst ho
            clear hdep hA
            go_simp
            refine hK _ _ ((Below.refl _ _).alloc (Nat.le_refl _) _) ⟨wb.heap.size, rfl, ZB.new wb, hB.size⟩ (fun e => absurd rfl e) (fun _ j z hj hz => ?_)
            match j, hz with
            | 5, ⟨f0, f1, f2, f3, f4, f4l, f4c, f5, f5l, f5c, e, hl⟩ => exact fun g eg => by injection eg with eg; injection eg with eg; injection eg with eg; exact ⟨f0, f1, f2, f3, f4, f4l, f4c, f5, f5l, f5c, e, (hl.bound.later ((Below.refl _ _).alloc (Nat.le_refl _) _)).weaken fun b hb => by omega⟩
            | 6, ⟨f0, f1, f2, f3, f4, f4l, f4c, f5, f5l, f5c, e, hl⟩ => exact fun g eg => by injection eg with eg; injection eg with eg; injection eg with eg; exact ⟨f0, f1, f2, f3, f4, f4l, f4c, f5, f5l, f5c, e, (hl.bound.later ((Below.refl _ _).alloc (Nat.le_refl _) _)).weaken fun b hb => by omega⟩
            | 0, _ | 1, _ | 2, _ | 3, _ | 4, _ | 7, _ => trivial
            | (k + 8), _ => trivial
        case s7 =>
          intro o ac wb K' ho hA hB hU hNN hK
          simp at ho
          subst ho
          obtain ⟨g, zg, hzb, hg⟩ := hU 7 (by omega)
          obtain ⟨f0, f1, f2, f3, f4, f4l, f4c, f5, f5l, f5c, zo, hl⟩ := hNN 6 (by omega) g zg
          have zo : ac.tmps[102]?.getD undef = .agg #[.int .i64 f0, .bool f1, .int .i64 f2, .string f3, .slice f4 f4l f4c, .slice f5 f5l f5c] := zo
          have zg' : ac.tmps[16]?.getD undef = .pointer (some ⟨g, 0, none⟩) := zg
          have zc : ∀ j, wb.cell? ⟨g, j, none⟩ = (#[.int .i64 0, .bool false, .int .i64 0, .string ⟨#[]⟩, .slice none 0 0, .slice none 0 0] : Array Value)[j]? := hzb.cell
          have zf := hzb.frozen
          have hbx : Box6 (setRow wb g 0 [.int .i64 f0, .bool f1, .int .i64 f2, .string f3, .slice f4 f4l f4c, .slice f5 f5l f5c]) g #[.int .i64 f0, .bool f1, .int .i64 f2, .string f3, .slice f4 f4l f4c, .slice f5 f5l f5c] := row_box6 (zb_rows hzb [.int .i64 f0, .bool f1, .int .i64 f2, .string f3, .slice f4 f4l f4c, .slice f5 f5l f5c] rfl)
          have hlt := hzb.lt
          have hlz := Lib.hid hl
          clear hU hNN hA hl
          go_simp
          exact hK _ ⟨g, f0, f1, f2, f3, f4, f4l, f4c, f5, f5l, f5c, zg, hbx, lies_setRowT [.int .i64 f0, .bool f1, .int .i64 f2, .string f3, .slice f4 f4l f4c, .slice f5 f5l f5c] hlz.out, hg, by show _ < (setRow wb g 0 [.int .i64 f0, .bool f1, .int .i64 f2, .string f3, .slice f4 f4l f4c, .slice f5 f5l f5c]).heap.size; rw [setRow_size]; exact hlt, setRow_below g hg [.int .i64 f0, .bool f1, .int .i64 f2, .string f3, .slice f4 f4l f4c, .slice f5 f5l f5c] wb 0 hB⟩
        case s9 =>
          intro ac wn hA hF
          obtain ⟨g, f0, f1, f2, f3, f4, f4l, f4c, f5, f5l, f5c, zg, hbx, hf, hg, hgl, hbn⟩ := hF
          have hs : slots 8 (fun i => match i with | 0 => 96 | 1 => 97 | 2 => 98 | 3 => 99 | 4 => 100 | 5 => 101 | 6 => 102 | 7 => 16 | _ => 0) = [96, 97, 98, 99, 100, 101, 102, 16] := by rfl
          rw [hs] at hA
          have hac := hA.act (fun t ht => by
            have h8 : t = 96 ∨ t = 97 ∨ t = 98 ∨ t = 99 ∨ t = 100 ∨ t = 101 ∨ t = 102 ∨ t = 16 := by simpa using ht
            rcases h8 with rfl | rfl | rfl | rfl | rfl | rfl | rfl | rfl <;> exact Nat.lt_of_lt_of_le (by decide : _ < 152) (Nat.le_refl 152))
          rw [List.foldl_cons, List.foldl_cons, List.foldl_cons, List.foldl_cons, List.foldl_cons, List.foldl_cons, List.foldl_cons, List.foldl_cons, List.foldl_nil] at hac
          have zg : sl ac 16 = .pointer (some ⟨g, 0, none⟩) := zg
          rw [zg] at hac
          generalize sl ac 96 = x96 at hac
          generalize sl ac 97 = x97 at hac
          generalize sl ac 98 = x98 at hac
          generalize sl ac 99 = x99 at hac
          generalize sl ac 100 = x100 at hac
          generalize sl ac 101 = x101 at hac
          generalize sl ac 102 = x102 at hac
          clear hA hs zg
          subst hac
          simp only [Act.put, List.setIfInBounds_toArray, List.set_cons_succ, List.set_cons_zero]
          have HV7 := Lib.hid hbn
          have BG := Lib.hid hbx.out
          have HL7 := hf
          have HG := Lib.hid hgl
          have HW7 := Lib.hid (bstep HW6.out hbn HW6.out.size)
          have hg6 := hg
          clear x0 x1 x2 x3 x4 x5 hbx hf hbn hgl
          go_upto_region 20 with (first
            | (go_at_call 16; refine (RQ.out _).mono ?_; rintro e wqq ⟨rfl, hwq⟩; have hwq2 := hwq.symm; subst hwq2)
            | (go_at_call 17; refine (RS.out _).mono ?_; rintro e wqg ⟨rfl, hwq⟩; have hwq2 := hwq.symm; subst hwq2))
          have h2t := two_texts wn qa qb (by have := HQAZ.out; omega) (by have := HQBZ.out; omega)
          have hb8 : Below wn.heap.size wn (wn.alloc (.cells #[.string qa, .string qb] 9)) := (Below.refl _ _).alloc (Nat.le_refl _) _
          have hs8 : wn.heap.size < (wn.alloc (.cells #[.string qa, .string qb] 9)).heap.size := by simp
          generalize wn.alloc (.cells #[.string qa, .string qb] 9) = v8 at h2t hb8 hs8 ⊢
          have HT8 := Lib.hid h2t
          have HV8 := Lib.hid hb8
          have HW8 := Lib.hid (bstep HW7.out hb8 HW7.out.size)
          have HX8 := Lib.hid (HX6.out.later (bstep HV7.out hb8 HV7.out.size) (Nat.lt_of_lt_of_le HWS.out (Nat.le_refl _)))
          have HG8 := Lib.hid (BG.out.later hb8 HG.out)
          have HL8 := Lib.hid (HL7.out.later hb8)
          have hgs := Nat.lt_of_lt_of_le HG.out hb8.size
          have HGS := Lib.hid hgs
          have hxs := Nat.lt_of_lt_of_le HWS.out (Nat.le_trans HV7.out.size hb8.size)
          have HXS := Lib.hid hxs
          clear h2t hb8 hs8 hgs hxs
          go_loopw [109] (fun vi wr => ∃ j : Nat, j ≤ 2 ∧ vi = .int .i64 j ∧ Below v8.heap.size v8 wr) (fun vi _ => 2 - (intOf vi).toNat)
          case atStart => exact ⟨0, by omega, rfl, Below.refl _ _⟩
          case round =>
            obtain ⟨j, hj, rfl, hbr⟩ := hrel
            have HBR := Lib.hid hbr
            have HWR := Lib.hid (bstep HW8.out hbr HW8.out.size)
            clear hbr
            by_cases hj2 : j < 2
            · have hjl : j < [qa, qb].length := hj2
              have r0 := (HT8.out.later HBR.out).cell j hjl _ _ rfl
              have HQ : Hid (([qa, qb][j].size ≤ 1002) ∧ ∀ w1, Below w.heap.size w w1 → Calls Tryz.prog 19 #[.string [qa, qb][j]] w1 (ParseTo w1 #[.int .i64 3, .bool false, .int .i64 0, .string tx, .slice none 0 0, .slice none 0 0] 0)) := by
                rcases (by omega : j = 0 ∨ j = 1) with rfl | rfl
                · exact ⟨HQAZ.out, WQ.out⟩
                · exact ⟨HQBZ.out, WG.out⟩
              generalize [qa, qb][j] = qq at r0 HQ
              rw [Nat.zero_add] at r0
              clear hjl
              have hqz := HQ.out.1
              have hpz := HPZ.out
              have e61 : (⟨#[61]⟩ : ByteArray).size = 1 := rfl
              have hs61 : (P ++ ⟨#[61]⟩).size ≤ 2200 := by rw [ByteArray.size_append]; omega
              have SETT : Hid (Calls Tryz.prog 10 #[.agg #[.int .i64 c0, .bool c1, .int .i64 c2, .string c3, .slice c4 c4l c4c, .slice c5 c5l c5c], .string (P ++ ⟨#[61]⟩ ++ qq)] wr (SetIn wr (rt, rc))) := by
                have := set_text H.out (by have := HTZ.out; omega) HPATH.out (by omega) tx qq ht5 (by omega) wr HWR.out m (CM.out wr HWR.out).1 (CM.out wr HWR.out).2 (fun w1 hb => HQ.out.2 w1 (bstep HWR.out hb HWR.out.size))
                rw [← HUP.out, ← HOO.out, ← HRO.out] at this
                exact this
              obtain ⟨x0, x1, x2, x3, x4, x5⟩ := (HX8.out.later HBR.out HXS.out).six
              have hj2i : decide ((j : Int) < 2) = true := decide_eq_true (by omega)
              go_upto_region 23 with (go_at_call 10; refine SETT.out.mono ?_; rintro e w9 ⟨es, rfl, hl, hb⟩; obtain ⟨d0, d1, d2, d3, d4, d4l, d4c, d5, d5l, d5c, rfl⟩ := hl.six; have HLD := Lib.hid hl; have HB9 := Lib.hid hb; clear hl hb)
              have b9 := Box6.new w9 #[.int .i64 d0, .bool d1, .int .i64 d2, .string d3, .slice d4 d4l d4c, .slice d5 d5l d5c] 25
              have hb9 := HB9.out.alloc HB9.out.size (.cells #[.int .i64 d0, .bool d1, .int .i64 d2, .string d3, .slice d4 d4l d4c, .slice d5 d5l d5c] 25)
              have hl9 := HLD.out.later ((Below.refl w9.heap.size w9).alloc (Nat.le_refl _) (.cells #[.int .i64 d0, .bool d1, .int .i64 d2, .string d3, .slice d4 d4l d4c, .slice d5 d5l d5c] 25))
              have hs9 : w9.heap.size < (w9.alloc (.cells #[.int .i64 d0, .bool d1, .int .i64 d2, .string d3, .slice d4 d4l d4c, .slice d5 d5l d5c] 25)).heap.size := by simp
              generalize w9.alloc (.cells #[.int .i64 d0, .bool d1, .int .i64 d2, .string d3, .slice d4 d4l d4c, .slice d5 d5l d5c] 25) = v9 at b9 hb9 hl9 hs9 ⊢
              have BD := Lib.hid b9
              have HV9 := Lib.hid (bstep HBR.out hb9 HBR.out.size)
              have HLD9 := Lib.hid hl9
              have HS9 := Lib.hid hs9
              clear x0 x1 x2 x3 x4 x5 b9 hb9 hl9 hs9
              obtain ⟨x0, x1, x2, x3, x4, x5⟩ := (HG8.out.later HV9.out HGS.out).six
              have HLO := Lib.hid (HL8.out.later HV9.out)
              have CKC := rCheck_any HLO.out v9 (Below.refl _ _) HOZ.out
              rw [← HCK.out] at CKC
              have HCKC := Lib.hid CKC
              clear CKC
              go_upto_region 24 with (go_at_call 18; refine HCKC.out.mono ?_; rintro e w10 ⟨rfl, hb⟩; have HB10 := Lib.hid hb; clear hb)
              have HV10 := Lib.hid (bstep HV9.out HB10.out HV9.out.size)
              clear x0 x1 x2 x3 x4 x5
              obtain ⟨x0, x1, x2, x3, x4, x5⟩ := (HG8.out.later HV10.out HGS.out).six
              obtain ⟨y0, y1, y2, y3, y4, y5⟩ := (BD.out.later HB10.out HS9.out).six
              have HNX : Hid (j + 1 ≤ 2) := hj2
              by_cases hc0 : ck = 0
              case pos =>
                obtain ⟨er, ec⟩ := HRT.out.1 hc0
                have HER := Lib.hid er
                subst hc0 ec
                have SM2 : Hid (Calls Tryz.prog 12 #[.agg #[.int .i64 d0, .bool d1, .int .i64 d2, .string d3, .slice d4 d4l d4c, .slice d5 d5l d5c], .agg #[.int .i64 f0, .bool f1, .int .i64 f2, .string f3, .slice f4 f4l f4c, .slice f5 f5l f5c]] w10 fun e w' => e = .returned (.bool true) ∧ Below w10.heap.size w10 w') := by
                  have := rSame_any (HLD9.out.later HB10.out) (HLO.out.later HB10.out) w10 (Below.refl _ _)
                  rw [HER.out, T.same_self] at this
                  exact this
                clear er
                go_wp2_with (go_at_call 12; refine SM2.out.mono ?_; rintro e w11 ⟨rfl, hb⟩; have HB11 := Lib.hid hb; clear hb)
                go_round
                case rel => exact ⟨j + 1, HNX.out, by go_num, bstep HV10.out HB11.out HV10.out.size⟩
                case measure => simp [intOf]; omega
              case neg =>
                have ec := HRT.out.2 hc0
                subst ec
                have g9 : (rc == 0) = false := by rw [beq_eq_false_iff_ne]; exact hc0
                have g10 : (rc != 0) = true := by rw [bne_iff_ne]; exact hc0
                have g11 : (rc != rc) = false := by simp
                clear hc0
                go_wp2_with fail
                go_round
                case rel => exact ⟨j + 1, HNX.out, by go_num, HV10.out⟩
                case measure => simp [intOf]; omega
            · obtain rfl : j = 2 := by omega
              go_upto_region 31 with (go_at_call 19; refine (WX.out _ HWR.out).mono ?_; rintro e w12 ⟨rfl, hb⟩; have HB12 := Lib.hid hb; clear hb)
              have b13 := Box6.new w12 #[.int .i64 0, .bool false, .int .i64 0, .string ⟨#[]⟩, .slice none 0 0, .slice none 0 0] 25
              have hb13 := HB12.out.alloc HB12.out.size (.cells #[.int .i64 0, .bool false, .int .i64 0, .string ⟨#[]⟩, .slice none 0 0, .slice none 0 0] 25)
              have hs13 : w12.heap.size < (w12.alloc (.cells #[.int .i64 0, .bool false, .int .i64 0, .string ⟨#[]⟩, .slice none 0 0, .slice none 0 0] 25)).heap.size := by simp
              generalize w12.alloc (.cells #[.int .i64 0, .bool false, .int .i64 0, .string ⟨#[]⟩, .slice none 0 0, .slice none 0 0] 25) = v13 at b13 hb13 hs13 ⊢
              have B13 := Lib.hid b13
              have HS13 := Lib.hid hs13
              have HW13 := Lib.hid (bstep HWR.out hb13 HWR.out.size)
              clear b13 hb13 hs13
              go_wp2_with (go_at_call 8; refine (AW.out _ HW13.out).mono ?_; rintro e w14 ⟨rfl, hb⟩; have HB14 := Lib.hid hb; obtain ⟨x0, x1, x2, x3, x4, x5⟩ := (B13.out.later hb HS13.out).six; clear hb)
              go_ret
              exact ⟨rfl, bstep HW13.out HB14.out HW13.out.size⟩
  | false =>
    go_enter Tryz.func3, Tryz.ntmps3
    go_upto_region 1 with fail
    generalize w.alloc (.cells #[.int .i64 c0, .bool c1, .int .i64 c2, .string c3, .slice c4 c4l c4c, .slice c5 c5l c5c] 25) = v at *
    obtain ⟨x0, x1, x2, x3, x4, x5⟩ := BX.out.six
    go_upto_region 3 with (first
      | (go_at_call 6; refine (RG.out _ HB1.out).mono ?_; rintro e u1 ⟨rfl, hb⟩; have HB2b := Lib.hid hb; have HB2 := Lib.hid (bstep HB1.out hb HB1.out.size); clear hb)
      | (go_at_call 7; refine (TA.out _).mono ?_; rintro e w1t ⟨rfl, hwt⟩; subst hwt))
    have BX2 := Lib.hid (BX.out.later HB2b.out HS1.out)
    have hs2 := Nat.lt_of_lt_of_le HS1.out HB2b.out.size
    have HS2 := Lib.hid hs2
    clear x0 x1 x2 x3 x4 x5 hs2
    obtain ⟨x0, x1, x2, x3, x4, x5⟩ := BX2.out.six
    go_upto_region 5 with (first
      | (go_at_call 9; refine (QT.out _).mono ?_; rintro e w1q ⟨rfl, hwq⟩; have hwq2 := hwq.symm; subst hwq2)
      | (go_at_call 10; refine (SETV.out (by trivial) _ HB2.out).mono ?_; rintro e w2 ⟨es, rfl, hl, hb⟩; obtain ⟨a0, a1, a2, a3, a4, a4l, a4c, a5, a5l, a5c, rfl⟩ := hl.six; have HA := Lib.hid hl; have HB3 := Lib.hid hb; clear hl hb))
    have hbxA := Box6.new w2 #[.int .i64 a0, .bool a1, .int .i64 a2, .string a3, .slice a4 a4l a4c, .slice a5 a5l a5c] 25
    have hb3 := HB3.out.alloc HB3.out.size (.cells #[.int .i64 a0, .bool a1, .int .i64 a2, .string a3, .slice a4 a4l a4c, .slice a5 a5l a5c] 25)
    have hl3 := HA.out.later ((Below.refl w2.heap.size w2).alloc (Nat.le_refl _) (.cells #[.int .i64 a0, .bool a1, .int .i64 a2, .string a3, .slice a4 a4l a4c, .slice a5 a5l a5c] 25))
    have hs3 : w2.heap.size < (w2.alloc (.cells #[.int .i64 a0, .bool a1, .int .i64 a2, .string a3, .slice a4 a4l a4c, .slice a5 a5l a5c] 25)).heap.size := by simp
    generalize w2.alloc (.cells #[.int .i64 a0, .bool a1, .int .i64 a2, .string a3, .slice a4 a4l a4c, .slice a5 a5l a5c] 25) = v3 at hbxA hb3 hl3 hs3 ⊢
    have BA := Lib.hid hbxA
    have HV3 := Lib.hid hb3
    have HA3 := Lib.hid hl3
    have HS3 := Lib.hid hs3
    have HW3 := Lib.hid (bstep HB2.out hb3 HB2.out.size)
    clear x0 x1 x2 x3 x4 x5 hbxA hb3 hl3 hs3
    obtain ⟨x0, x1, x2, x3, x4, x5⟩ := (BX2.out.later HV3.out HS2.out).six
    go_upto_region 6 with (go_at_call 11; refine (SETR.out _ HW3.out).mono ?_; rintro e w4 ⟨es, rfl, hl, hb⟩; obtain ⟨b0, b1, b2, b3, b4, b4l, b4c, b5, b5l, b5c, rfl⟩ := hl.six; have HBL := Lib.hid hl; have HB5 := Lib.hid hb; clear hl hb)
    have hbxB := Box6.new w4 #[.int .i64 b0, .bool b1, .int .i64 b2, .string b3, .slice b4 b4l b4c, .slice b5 b5l b5c] 25
    have hb5 := HB5.out.alloc HB5.out.size (.cells #[.int .i64 b0, .bool b1, .int .i64 b2, .string b3, .slice b4 b4l b4c, .slice b5 b5l b5c] 25)
    have hl5 := HBL.out.later ((Below.refl w4.heap.size w4).alloc (Nat.le_refl _) (.cells #[.int .i64 b0, .bool b1, .int .i64 b2, .string b3, .slice b4 b4l b4c, .slice b5 b5l b5c] 25))
    generalize w4.alloc (.cells #[.int .i64 b0, .bool b1, .int .i64 b2, .string b3, .slice b4 b4l b4c, .slice b5 b5l b5c] 25) = v5 at hbxB hb5 hl5 ⊢
    have HV5 := Lib.hid hb5
    have HL5 := Lib.hid hl5
    have HW5 := Lib.hid (bstep HW3.out hb5 HW3.out.size)
    have HA5 := Lib.hid (HA3.out.later hb5)
    have hcc : (rSc != rSc) = false := by simp
    clear x0 x1 x2 x3 x4 x5
    obtain ⟨x0, x1, x2, x3, x4, x5⟩ := (BA.out.later hb5 HS3.out).six
    obtain ⟨y0, y1, y2, y3, y4, y5⟩ := hbxB.six
    have SM : Hid (Calls Tryz.prog 12 #[.agg #[.int .i64 a0, .bool a1, .int .i64 a2, .string a3, .slice a4 a4l a4c, .slice a5 a5l a5c], .agg #[.int .i64 b0, .bool b1, .int .i64 b2, .string b3, .slice b4 b4l b4c, .slice b5 b5l b5c]] v5 fun e w' => e = .returned (.bool true) ∧ Below v5.heap.size v5 w') := by
      have := rSame_any HA5.out HL5.out v5 (Below.refl _ _)
      rw [T.same_self] at this
      exact this
    clear hbxB hb5 hl5
    go_wp2_with (go_at_call 12; refine SM.out.mono ?_; rintro e w6 ⟨rfl, hb6⟩; have HB6 := Lib.hid hb6; clear hb6)
    have HW6 := Lib.hid (bstep HW5.out HB6.out HW5.out.size)
    have HX6 := Lib.hid (BX2.out.later (bstep HV3.out (bstep HV5.out HB6.out HV5.out.size) HV3.out.size) HS2.out)
    have HK6 := Lib.hid (HS.out.later HW6.out)
    clear x0 x1 x2 x3 x4 x5 y0 y1 y2 y3 y4 y5 HB1 HS1 BX HB2b
    have HWS : Hid (w.heap.size < w6.heap.size) := Nat.lt_of_lt_of_le HS2.out (bstep HV3.out (bstep HV5.out HB6.out HV5.out.size) HV3.out.size).size
    go_loop [13, 79] (fun v13 vi => ∃ j : Nat, j ≤ ks.length ∧ vi = .int .i64 j ∧ v13 = .string (joinB ks j) ∧ Hid (∀ i (h : i < ks.length), i < j → wordL ks[i].data.toList = true)) (fun _ vi => ks.length - (intOf vi).toNat)
    case atStart => exact ⟨0, Nat.zero_le _, rfl, rfl, fun i h hi => absurd hi (Nat.not_lt_zero i)⟩
    case round =>
      obtain ⟨j, hj, rfl, rfl, hwd⟩ := hrel
      have HWD := Lib.hid hwd
      clear hwd
      by_cases hjl : j < ks.length
      · obtain ⟨bb, oo, rfl⟩ := HK6.out.ofSome (by omega)
        have r0 := HK6.out.cell j hjl bb oo rfl
        have HC := Lib.hid (r2Word_any ks[j] (HK6.out.sizes j hjl))
        have hjb := joinB_size ks j (fun i hi hij => by have := (word_len (HWD.out.out i hi hij)).2; rw [Lib.size_eq]; omega) hj
        cases hwj : wordL ks[j].data.toList with
        | false =>
          rw [hwj] at HC
          clear hwj
          go_wp2_with (first
            | (go_at_call 13; refine (HC.out _).mono ?_; rintro e w9 ⟨rfl, hw9⟩; have hw92 := hw9.symm; subst hw92)
            | (go_at_call 8; refine (AW.out _ HW6.out).mono ?_; rintro e w4a ⟨rfl, hb2⟩))
          go_ret
          exact ⟨rfl, bstep HW6.out hb2 HW6.out.size⟩
        | true =>
          rw [hwj] at HC
          have HWJ := Lib.hid hwj
          have hkz : ks[j].size ≤ 256 := by have := (word_len hwj).2; rw [Lib.size_eq]; omega
          clear hwj
          have HW1 : Hid (∀ i (h : i < ks.length), i < j + 1 → wordL ks[i].data.toList = true) := fun i h hi => by
            by_cases e : i = j
            · subst e; exact HWJ.out
            · exact HWD.out.out i h (by omega)
          obtain ⟨JB, hJB⟩ : ∃ JB, JB = joinB ks j := ⟨_, rfl⟩
          rw [← hJB] at hjb ⊢
          have HJB := Lib.hid hJB
          clear hJB
          have hjz : JB.size ≤ 3000 := by omega
          clear hjb
          have e46 : (⟨#[46]⟩ : ByteArray).size = 1 := rfl
          by_cases hj0 : j = 0
          · have g8 : ¬ ((j : Int) > 0) := by omega
            have HJ0 := Lib.hid hj0
            clear hj0
            go_wp2_with (go_at_call 13; refine (HC.out _).mono ?_; rintro e w9 ⟨rfl, hw9⟩; have hw92 := hw9.symm; subst hw92)
            go_round
            case rel => exact ⟨j + 1, by omega, by go_num, by rw [HJB.out, joinB, if_pos HJ0.out, getD_at hjl], HW1.out⟩
            case measure => simp [intOf]; omega
          · have g8 : ((j : Int) > 0) := by omega
            go_wp2_with (go_at_call 13; refine (HC.out _).mono ?_; rintro e w9 ⟨rfl, hw9⟩; have hw92 := hw9.symm; subst hw92)
            go_round
            case rel => exact ⟨j + 1, by omega, by go_num, by rw [HJB.out, joinB, if_neg hj0, getD_at hjl], HW1.out⟩
            case measure => simp [intOf]; omega
      · obtain rfl : j = ks.length := by omega
        have hpath := joinB_path (fun i h => HWD.out.out i h h) (fun e => by rw [e] at hl0; exact hl0 rfl) (by omega)
        have hpz := joinB_size ks ks.length (fun i hi hij => by have := (word_len (HWD.out.out i hi hij)).2; rw [Lib.size_eq]; omega) (Nat.le_refl _)
        have hpz2 : (joinB ks ks.length).size ≤ 2100 := by omega
        obtain ⟨P, hP⟩ : ∃ P, P = joinB ks ks.length := ⟨_, rfl⟩
        rw [← hP] at hpath hpz2 ⊢
        have HPATH := Lib.hid hpath
        have HPZ := Lib.hid hpz2
        clear hpath hpz hpz2 hP
        obtain ⟨x0, x1, x2, x3, x4, x5⟩ := HX6.out.six
        have HC6 : Hid (Lies w6 (fun b => b < w6.heap.size) t #[.int .i64 c0, .bool c1, .int .i64 c2, .string c3, .slice c4 c4l c4c, .slice c5 c5l c5c]) := (H.out.later HW6.out).bound.weaken fun b hb => hb.2
        have PUT : Hid (∀ w1, Below w6.heap.size w6 w1 → Calls Tryz.prog 15 #[.agg #[.int .i64 5, .bool false, .int .i64 0, .string ⟨#[]⟩, .slice none 0 0, .slice none 0 0], .agg #[.int .i64 3, .bool false, .int .i64 0, .string tx, .slice none 0 0, .slice none 0 0], .slice sa ks.length sc] w1 (Laid w6 w1 U)) := fun w1 hb => by
          rw [← HUU.out]
          exact r2Put_any ks (none5_lies w6 (fun _ => True)) (leafV w6 3 false 0 tx (by decide) (by decide) (by omega)) HK6.out (by rw [HZ5.out]; omega) w1 hb
        go_upto_region 18 with fail
        refine wp_region_specsO w6 8 7 (fun i => match i with | 0 => 96 | 1 => 97 | 2 => 98 | 3 => 99 | 4 => 100 | 5 => 101 | 6 => 102 | 7 => 16 | _ => 0) (fun i x wx => match i with | 0 => x = .agg #[.int .i64 c0, .bool c1, .int .i64 c2, .string c3, .slice c4 c4l c4c, .slice c5 c5l c5c] | 1 => x = .agg #[.int .i64 5, .bool false, .int .i64 0, .string ⟨#[]⟩, .slice none 0 0, .slice none 0 0] | 2 => x = .string tx | 3 => x = .agg #[.int .i64 3, .bool false, .int .i64 0, .string tx, .slice none 0 0, .slice none 0 0] | 4 => x = .slice sa ks.length sc | 5 => ∃ (f0 : Int) (f1 : Bool) (f2 : Int) (f3 : ByteArray) (f4 : Option Addr) (f4l f4c : Nat) (f5 : Option Addr) (f5l f5c : Nat), x = .agg #[.int .i64 f0, .bool f1, .int .i64 f2, .string f3, .slice f4 f4l f4c, .slice f5 f5l f5c] ∧ Lies wx (fun b => True) U #[.int .i64 f0, .bool f1, .int .i64 f2, .string f3, .slice f4 f4l f4c, .slice f5 f5l f5c] | 6 => ∃ (f0 : Int) (f1 : Bool) (f2 : Int) (f3 : ByteArray) (f4 : Option Addr) (f4l f4c : Nat) (f5 : Option Addr) (f5l f5c : Nat), x = .agg #[.int .i64 f0, .bool f1, .int .i64 f2, .string f3, .slice f4 f4l f4c, .slice f5 f5l f5c] ∧ Lies wx (fun b => True) O #[.int .i64 f0, .bool f1, .int .i64 f2, .string f3, .slice f4 f4l f4c, .slice f5 f5l f5c] | 7 => ∃ g : Nat, x = .pointer (some ⟨g, 0, none⟩) ∧ ZB wx g ∧ w6.heap.size ≤ g | _ => True) (fun i x yv wx => match i with | 5 => ∀ g, yv = .pointer (some ⟨g, 0, none⟩) → ∃ (f0 : Int) (f1 : Bool) (f2 : Int) (f3 : ByteArray) (f4 : Option Addr) (f4l f4c : Nat) (f5 : Option Addr) (f5l f5c : Nat), x = .agg #[.int .i64 f0, .bool f1, .int .i64 f2, .string f3, .slice f4 f4l f4c, .slice f5 f5l f5c] ∧ Lies wx (fun b => b ≠ g) U #[.int .i64 f0, .bool f1, .int .i64 f2, .string f3, .slice f4 f4l f4c, .slice f5 f5l f5c] | 6 => ∀ g, yv = .pointer (some ⟨g, 0, none⟩) → ∃ (f0 : Int) (f1 : Bool) (f2 : Int) (f3 : ByteArray) (f4 : Option Addr) (f4l f4c : Nat) (f5 : Option Addr) (f5l f5c : Nat), x = .agg #[.int .i64 f0, .bool f1, .int .i64 f2, .string f3, .slice f4 f4l f4c, .slice f5 f5l f5c] ∧ Lies wx (fun b => b ≠ g) O #[.int .i64 f0, .bool f1, .int .i64 f2, .string f3, .slice f4 f4l f4c, .slice f5 f5l f5c] | _ => True) (fun x wx => ∃ (g : Nat) (f0 : Int) (f1 : Bool) (f2 : Int) (f3 : ByteArray) (f4 : Option Addr) (f4l f4c : Nat) (f5 : Option Addr) (f5l f5c : Nat), x = .pointer (some ⟨g, 0, none⟩) ∧ Hid (Box6 wx g #[.int .i64 f0, .bool f1, .int .i64 f2, .string f3, .slice f4 f4l f4c, .slice f5 f5l f5c]) ∧ Hid (Lies wx (fun _ => True) O #[.int .i64 f0, .bool f1, .int .i64 f2, .string f3, .slice f4 f4l f4c, .slice f5 f5l f5c]) ∧ w6.heap.size ≤ g ∧ g < wx.heap.size ∧ Below w6.heap.size w6 wx) (by kernel_rfl) (by kernel_rfl) ?s1 (by decide) (Below.refl _ _) ?s2 ?n1 (fun _ _ _ => trivial) ?s5 ?s7 ?s9
        case s1 => intro i hi; rcases (by omega : i = 0 ∨ i = 1 ∨ i = 2 ∨ i = 3 ∨ i = 4 ∨ i = 5 ∨ i = 6 ∨ i = 7) with rfl | rfl | rfl | rfl | rfl | rfl | rfl | rfl <;> exact Nat.lt_of_lt_of_le (by decide : _ < 152) (Nat.le_refl 152)
        case s2 =>
          intro i x w1 w2 hb hU
          match i, hU with
          | 5, ⟨f0, f1, f2, f3, f4, f4l, f4c, f5, f5l, f5c, e, hl⟩ => exact ⟨f0, f1, f2, f3, f4, f4l, f4c, f5, f5l, f5c, e, hl.later hb⟩
          | 6, ⟨f0, f1, f2, f3, f4, f4l, f4c, f5, f5l, f5c, e, hl⟩ => exact ⟨f0, f1, f2, f3, f4, f4l, f4c, f5, f5l, f5c, e, hl.later hb⟩
          | 7, ⟨g, e, hz, hg⟩ => exact ⟨g, e, hz.later hb, hg⟩
          | 0, h | 1, h | 2, h | 3, h | 4, h => exact h
          | (k + 8), _ => trivial
        case n1 =>
          intro i x y w1 w2 hi hb hN
          match i, hN with
          | 5, h => exact fun g e => by obtain ⟨f0, f1, f2, f3, f4, f4l, f4c, f5, f5l, f5c, e2, hl⟩ := h g e; exact ⟨f0, f1, f2, f3, f4, f4l, f4c, f5, f5l, f5c, e2, hl.later hb⟩
          | 6, h => exact fun g e => by obtain ⟨f0, f1, f2, f3, f4, f4l, f4c, f5, f5l, f5c, e2, hl⟩ := h g e; exact ⟨f0, f1, f2, f3, f4, f4l, f4c, f5, f5l, f5c, e2, hl.later hb⟩
          | 0, _ | 1, _ | 2, _ | 3, _ | 4, _ | 7, _ => trivial
          | (k + 8), _ => trivial
        case s5 =>
          intro i o ac wb K' ho hi hA hB hdep hK
          have sv4 : ac.tmps[4]?.getD undef = .pointer (some ⟨w.heap.size, 0, none⟩) := hA.sl (t := 4) (by decide)
          have sv3 : ac.tmps[3]?.getD undef = .string tx := hA.sl (t := 3) (by decide)
          have sv2 : ac.tmps[2]?.getD undef = .slice sa ks.length sc := hA.sl (t := 2) (by decide)
          have x0 := cells_frame hB x0
          have x1 := cells_frame hB x1
          have x2 := cells_frame hB x2
          have x3 := cells_frame hB x3
          have x4 := cells_frame hB x4
          have x5 := cells_frame hB x5
          rcases (by omega : i = 0 ∨ i = 1 ∨ i = 2 ∨ i = 3 ∨ i = 4 ∨ i = 5 ∨ i = 6 ∨ i = 7) with rfl | rfl | rfl | rfl | rfl | rfl | rfl | rfl
          · simp at ho
            subst ho
            clear hdep hA
            go_simp
            exact hK _ wb (Below.refl _ _) rfl (fun _ _ _ _ => trivial) (fun e => absurd e (by decide))
          · simp at ho
            subst ho
            clear hdep hA
            go_simp
            exact hK _ wb (Below.refl _ _) rfl (fun _ _ _ _ => trivial) (fun e => absurd e (by decide))
          · simp at ho
            subst ho
            clear hdep hA
            go_simp
            exact hK _ wb (Below.refl _ _) rfl (fun _ _ _ _ => trivial) (fun e => absurd e (by decide))
          · simp at ho
            subst ho
            have z2 : ac.tmps[98]?.getD undef = .string tx := hdep { on := 2, ground := .data } (by simp) rfl
            clear hdep hA
            go_simp
            exact hK _ wb (Below.refl _ _) rfl (fun _ _ _ _ => trivial) (fun e => absurd e (by decide))
          · simp at ho
            subst ho
            clear hdep hA
            go_simp
            exact hK _ wb (Below.refl _ _) rfl (fun _ _ _ _ => trivial) (fun e => absurd e (by decide))
          · simp at ho
            subst ho
            have z1 : ac.tmps[97]?.getD undef = .agg #[.int .i64 5, .bool false, .int .i64 0, .string ⟨#[]⟩, .slice none 0 0, .slice none 0 0] := hdep { on := 1, ground := .data } (by simp) rfl
            have z3 : ac.tmps[99]?.getD undef = .agg #[.int .i64 3, .bool false, .int .i64 0, .string tx, .slice none 0 0, .slice none 0 0] := hdep { on := 3, ground := .data } (by simp) rfl
            have z4 : ac.tmps[100]?.getD undef = .slice sa ks.length sc := hdep { on := 4, ground := .data } (by simp) rfl
            clear hdep hA
            go_simp
            refine (PUT.out wb hB).mono ?_
            rintro e w5 ⟨es, rfl, hl, hb5⟩
            obtain ⟨f0, f1, f2, f3, f4, f4l, f4c, f5, f5l, f5c, rfl⟩ := hl.six
            refine hK _ w5 hb5 ⟨f0, f1, f2, f3, f4, f4l, f4c, f5, f5l, f5c, rfl, hl.weaken fun b hb => trivial⟩ (fun _ y hy _ g e => ⟨f0, f1, f2, f3, f4, f4l, f4c, f5, f5l, f5c, rfl, hl.weaken fun b hb => ?_⟩) (fun e => absurd e (by decide))
            obtain ⟨g2, hy2, hz2, hg2⟩ := hy
            rw [e] at hy2
            injection hy2 with hy2
            injection hy2 with hy2
            injection hy2 with hy2
            have := hz2.lt
            omega
          · simp at ho
            subst ho
            have z0 : ac.tmps[96]?.getD undef = .agg #[.int .i64 c0, .bool c1, .int .i64 c2, .string c3, .slice c4 c4l c4c, .slice c5 c5l c5c] := hdep { on := 0, ground := .data } (by simp) rfl
            obtain ⟨f0, f1, f2, f3, f4, f4l, f4c, f5, f5l, f5c, zp, hl⟩ := hdep { on := 5, ground := .data } (by simp) rfl
            have zp : ac.tmps[101]?.getD undef = .agg #[.int .i64 f0, .bool f1, .int .i64 f2, .string f3, .slice f4 f4l f4c, .slice f5 f5l f5c] := zp
            clear hdep hA
            go_simp
            have hlz := hl.least
            have RO := rOver_any hlz (HC6.out.later hB) wb (Below.refl _ _) HTS.out HUS.out
            rw [← HOO.out] at RO
            refine RO.mono ?_
            rintro e w5 ⟨es, rfl, hl5, hb5⟩
            obtain ⟨k0, k1, k2, k3, k4, k4l, k4c, k5, k5l, k5c, rfl⟩ := hl5.six
            refine hK _ w5 hb5 ⟨k0, k1, k2, k3, k4, k4l, k4c, k5, k5l, k5c, rfl, hl5.weaken fun b hb => trivial⟩ (fun _ y hy hd g e => ?_) (fun e => absurd e (by decide))
            obtain ⟨h0, h1, h2, h3, h4, h4l, h4c, h5, h5l, h5c, e2, hl2⟩ := hd { on := 5, ground := .data } (by simp) rfl g e
            have e3 := (show ac.tmps[101]?.getD undef = _ from e2).symm.trans zp
            cases e3
            refine ⟨k0, k1, k2, k3, k4, k4l, k4c, k5, k5l, k5c, rfl, hl5.weaken fun b hb => ?_⟩
            obtain ⟨g2, hy2, hz2, hg2⟩ := hy
            rw [e] at hy2
            injection hy2 with hy2
            injection hy2 with hy2
            injection hy2 with hy2
            have := hz2.lt
            rcases hb with ⟨hb | hb, _⟩ | hb
            · omega
            · exact hb _ hl2
            · omega
          · simp at ho
            subst ho
            clear hdep hA
            go_simp
            refine hK _ _ ((Below.refl _ _).alloc (Nat.le_refl _) _) ⟨wb.heap.size, rfl, ZB.new wb, hB.size⟩ (fun e => absurd rfl e) (fun _ j z hj hz => ?_)
            match j, hz with
            | 5, ⟨f0, f1, f2, f3, f4, f4l, f4c, f5, f5l, f5c, e, hl⟩ => exact fun g eg => by injection eg with eg; injection eg with eg; injection eg with eg; exact ⟨f0, f1, f2, f3, f4, f4l, f4c, f5, f5l, f5c, e, (hl.bound.later ((Below.refl _ _).alloc (Nat.le_refl _) _)).weaken fun b hb => by omega⟩
            | 6, ⟨f0, f1, f2, f3, f4, f4l, f4c, f5, f5l, f5c, e, hl⟩ => exact fun g eg => by injection eg with eg; injection eg with eg; injection eg with eg; exact ⟨f0, f1, f2, f3, f4, f4l, f4c, f5, f5l, f5c, e, (hl.bound.later ((Below.refl _ _).alloc (Nat.le_refl _) _)).weaken fun b hb => by omega⟩
            | 0, _ | 1, _ | 2, _ | 3, _ | 4, _ | 7, _ => trivial
            | (k + 8), _ => trivial
        case s7 =>
          intro o ac wb K' ho hA hB hU hNN hK
          simp at ho
          subst ho
          obtain ⟨g, zg, hzb, hg⟩ := hU 7 (by omega)
          obtain ⟨f0, f1, f2, f3, f4, f4l, f4c, f5, f5l, f5c, zo, hl⟩ := hNN 6 (by omega) g zg
          have zo : ac.tmps[102]?.getD undef = .agg #[.int .i64 f0, .bool f1, .int .i64 f2, .string f3, .slice f4 f4l f4c, .slice f5 f5l f5c] := zo
          have zg' : ac.tmps[16]?.getD undef = .pointer (some ⟨g, 0, none⟩) := zg
          have zc : ∀ j, wb.cell? ⟨g, j, none⟩ = (#[.int .i64 0, .bool false, .int .i64 0, .string ⟨#[]⟩, .slice none 0 0, .slice none 0 0] : Array Value)[j]? := hzb.cell
          have zf := hzb.frozen
          have hbx : Box6 (setRow wb g 0 [.int .i64 f0, .bool f1, .int .i64 f2, .string f3, .slice f4 f4l f4c, .slice f5 f5l f5c]) g #[.int .i64 f0, .bool f1, .int .i64 f2, .string f3, .slice f4 f4l f4c, .slice f5 f5l f5c] := row_box6 (zb_rows hzb [.int .i64 f0, .bool f1, .int .i64 f2, .string f3, .slice f4 f4l f4c, .slice f5 f5l f5c] rfl)
          have hlt := hzb.lt
          have hlz := Lib.hid hl
          clear hU hNN hA hl
          go_simp
          exact hK _ ⟨g, f0, f1, f2, f3, f4, f4l, f4c, f5, f5l, f5c, zg, hbx, lies_setRowT [.int .i64 f0, .bool f1, .int .i64 f2, .string f3, .slice f4 f4l f4c, .slice f5 f5l f5c] hlz.out, hg, by show _ < (setRow wb g 0 [.int .i64 f0, .bool f1, .int .i64 f2, .string f3, .slice f4 f4l f4c, .slice f5 f5l f5c]).heap.size; rw [setRow_size]; exact hlt, setRow_below g hg [.int .i64 f0, .bool f1, .int .i64 f2, .string f3, .slice f4 f4l f4c, .slice f5 f5l f5c] wb 0 hB⟩
        case s9 =>
          intro ac wn hA hF
          obtain ⟨g, f0, f1, f2, f3, f4, f4l, f4c, f5, f5l, f5c, zg, hbx, hf, hg, hgl, hbn⟩ := hF
          have hs : slots 8 (fun i => match i with | 0 => 96 | 1 => 97 | 2 => 98 | 3 => 99 | 4 => 100 | 5 => 101 | 6 => 102 | 7 => 16 | _ => 0) = [96, 97, 98, 99, 100, 101, 102, 16] := by rfl
          rw [hs] at hA
          have hac := hA.act (fun t ht => by
            have h8 : t = 96 ∨ t = 97 ∨ t = 98 ∨ t = 99 ∨ t = 100 ∨ t = 101 ∨ t = 102 ∨ t = 16 := by simpa using ht
            rcases h8 with rfl | rfl | rfl | rfl | rfl | rfl | rfl | rfl <;> exact Nat.lt_of_lt_of_le (by decide : _ < 152) (Nat.le_refl 152))
          rw [List.foldl_cons, List.foldl_cons, List.foldl_cons, List.foldl_cons, List.foldl_cons, List.foldl_cons, List.foldl_cons, List.foldl_cons, List.foldl_nil] at hac
          have zg : sl ac 16 = .pointer (some ⟨g, 0, none⟩) := zg
          rw [zg] at hac
          generalize sl ac 96 = x96 at hac
          generalize sl ac 97 = x97 at hac
          generalize sl ac 98 = x98 at hac
          generalize sl ac 99 = x99 at hac
          generalize sl ac 100 = x100 at hac
          generalize sl ac 101 = x101 at hac
          generalize sl ac 102 = x102 at hac
          clear hA hs zg
          subst hac
          simp only [Act.put, List.setIfInBounds_toArray, List.set_cons_succ, List.set_cons_zero]
          have HV7 := Lib.hid hbn
          have BG := Lib.hid hbx.out
          have HL7 := hf
          have HG := Lib.hid hgl
          have HW7 := Lib.hid (bstep HW6.out hbn HW6.out.size)
          have hg6 := hg
          clear x0 x1 x2 x3 x4 x5 hbx hf hbn hgl
          go_upto_region 20 with (first
            | (go_at_call 16; refine (RQ.out _).mono ?_; rintro e wqq ⟨rfl, hwq⟩; have hwq2 := hwq.symm; subst hwq2)
            | (go_at_call 17; refine (RS.out _).mono ?_; rintro e wqg ⟨rfl, hwq⟩; have hwq2 := hwq.symm; subst hwq2))
          have h2t := two_texts wn qa qb (by have := HQAZ.out; omega) (by have := HQBZ.out; omega)
          have hb8 : Below wn.heap.size wn (wn.alloc (.cells #[.string qa, .string qb] 9)) := (Below.refl _ _).alloc (Nat.le_refl _) _
          have hs8 : wn.heap.size < (wn.alloc (.cells #[.string qa, .string qb] 9)).heap.size := by simp
          generalize wn.alloc (.cells #[.string qa, .string qb] 9) = v8 at h2t hb8 hs8 ⊢
          have HT8 := Lib.hid h2t
          have HV8 := Lib.hid hb8
          have HW8 := Lib.hid (bstep HW7.out hb8 HW7.out.size)
          have HX8 := Lib.hid (HX6.out.later (bstep HV7.out hb8 HV7.out.size) (Nat.lt_of_lt_of_le HWS.out (Nat.le_refl _)))
          have HG8 := Lib.hid (BG.out.later hb8 HG.out)
          have HL8 := Lib.hid (HL7.out.later hb8)
          have hgs := Nat.lt_of_lt_of_le HG.out hb8.size
          have HGS := Lib.hid hgs
          have hxs := Nat.lt_of_lt_of_le HWS.out (Nat.le_trans HV7.out.size hb8.size)
          have HXS := Lib.hid hxs
          clear h2t hb8 hs8 hgs hxs
          go_loopw [109] (fun vi wr => ∃ j : Nat, j ≤ 2 ∧ vi = .int .i64 j ∧ Below v8.heap.size v8 wr) (fun vi _ => 2 - (intOf vi).toNat)
          case atStart => exact ⟨0, by omega, rfl, Below.refl _ _⟩
          case round =>
            obtain ⟨j, hj, rfl, hbr⟩ := hrel
            have HBR := Lib.hid hbr
            have HWR := Lib.hid (bstep HW8.out hbr HW8.out.size)
            clear hbr
            by_cases hj2 : j < 2
            · have hjl : j < [qa, qb].length := hj2
              have r0 := (HT8.out.later HBR.out).cell j hjl _ _ rfl
              have HQ : Hid (([qa, qb][j].size ≤ 1002) ∧ ∀ w1, Below w.heap.size w w1 → Calls Tryz.prog 19 #[.string [qa, qb][j]] w1 (ParseTo w1 #[.int .i64 3, .bool false, .int .i64 0, .string tx, .slice none 0 0, .slice none 0 0] 0)) := by
                rcases (by omega : j = 0 ∨ j = 1) with rfl | rfl
                · exact ⟨HQAZ.out, WQ.out⟩
                · exact ⟨HQBZ.out, WG.out⟩
              generalize [qa, qb][j] = qq at r0 HQ
              rw [Nat.zero_add] at r0
              clear hjl
              have hqz := HQ.out.1
              have hpz := HPZ.out
              have e61 : (⟨#[61]⟩ : ByteArray).size = 1 := rfl
              have hs61 : (P ++ ⟨#[61]⟩).size ≤ 2200 := by rw [ByteArray.size_append]; omega
              have SETT : Hid (Calls Tryz.prog 10 #[.agg #[.int .i64 c0, .bool c1, .int .i64 c2, .string c3, .slice c4 c4l c4c, .slice c5 c5l c5c], .string (P ++ ⟨#[61]⟩ ++ qq)] wr (SetIn wr (rt, rc))) := by
                have := set_text H.out (by have := HTZ.out; omega) HPATH.out (by omega) tx qq ht5 (by omega) wr HWR.out m (CM.out wr HWR.out).1 (CM.out wr HWR.out).2 (fun w1 hb => HQ.out.2 w1 (bstep HWR.out hb HWR.out.size))
                rw [← HUP.out, ← HOO.out, ← HRO.out] at this
                exact this
              obtain ⟨x0, x1, x2, x3, x4, x5⟩ := (HX8.out.later HBR.out HXS.out).six
              have hj2i : decide ((j : Int) < 2) = true := decide_eq_true (by omega)
              go_upto_region 23 with (go_at_call 10; refine SETT.out.mono ?_; rintro e w9 ⟨es, rfl, hl, hb⟩; obtain ⟨d0, d1, d2, d3, d4, d4l, d4c, d5, d5l, d5c, rfl⟩ := hl.six; have HLD := Lib.hid hl; have HB9 := Lib.hid hb; clear hl hb)
              have b9 := Box6.new w9 #[.int .i64 d0, .bool d1, .int .i64 d2, .string d3, .slice d4 d4l d4c, .slice d5 d5l d5c] 25
              have hb9 := HB9.out.alloc HB9.out.size (.cells #[.int .i64 d0, .bool d1, .int .i64 d2, .string d3, .slice d4 d4l d4c, .slice d5 d5l d5c] 25)
              have hl9 := HLD.out.later ((Below.refl w9.heap.size w9).alloc (Nat.le_refl _) (.cells #[.int .i64 d0, .bool d1, .int .i64 d2, .string d3, .slice d4 d4l d4c, .slice d5 d5l d5c] 25))
              have hs9 : w9.heap.size < (w9.alloc (.cells #[.int .i64 d0, .bool d1, .int .i64 d2, .string d3, .slice d4 d4l d4c, .slice d5 d5l d5c] 25)).heap.size := by simp
              generalize w9.alloc (.cells #[.int .i64 d0, .bool d1, .int .i64 d2, .string d3, .slice d4 d4l d4c, .slice d5 d5l d5c] 25) = v9 at b9 hb9 hl9 hs9 ⊢
              have BD := Lib.hid b9
              have HV9 := Lib.hid (bstep HBR.out hb9 HBR.out.size)
              have HLD9 := Lib.hid hl9
              have HS9 := Lib.hid hs9
              clear x0 x1 x2 x3 x4 x5 b9 hb9 hl9 hs9
              obtain ⟨x0, x1, x2, x3, x4, x5⟩ := (HG8.out.later HV9.out HGS.out).six
              have HLO := Lib.hid (HL8.out.later HV9.out)
              have CKC := rCheck_any HLO.out v9 (Below.refl _ _) HOZ.out
              rw [← HCK.out] at CKC
              have HCKC := Lib.hid CKC
              clear CKC
              go_upto_region 24 with (go_at_call 18; refine HCKC.out.mono ?_; rintro e w10 ⟨rfl, hb⟩; have HB10 := Lib.hid hb; clear hb)
              have HV10 := Lib.hid (bstep HV9.out HB10.out HV9.out.size)
              clear x0 x1 x2 x3 x4 x5
              obtain ⟨x0, x1, x2, x3, x4, x5⟩ := (HG8.out.later HV10.out HGS.out).six
              obtain ⟨y0, y1, y2, y3, y4, y5⟩ := (BD.out.later HB10.out HS9.out).six
              have HNX : Hid (j + 1 ≤ 2) := hj2
              by_cases hc0 : ck = 0
              case pos =>
                obtain ⟨er, ec⟩ := HRT.out.1 hc0
                have HER := Lib.hid er
                subst hc0 ec
                have SM2 : Hid (Calls Tryz.prog 12 #[.agg #[.int .i64 d0, .bool d1, .int .i64 d2, .string d3, .slice d4 d4l d4c, .slice d5 d5l d5c], .agg #[.int .i64 f0, .bool f1, .int .i64 f2, .string f3, .slice f4 f4l f4c, .slice f5 f5l f5c]] w10 fun e w' => e = .returned (.bool true) ∧ Below w10.heap.size w10 w') := by
                  have := rSame_any (HLD9.out.later HB10.out) (HLO.out.later HB10.out) w10 (Below.refl _ _)
                  rw [HER.out, T.same_self] at this
                  exact this
                clear er
                go_wp2_with (go_at_call 12; refine SM2.out.mono ?_; rintro e w11 ⟨rfl, hb⟩; have HB11 := Lib.hid hb; clear hb)
                go_round
                case rel => exact ⟨j + 1, HNX.out, by go_num, bstep HV10.out HB11.out HV10.out.size⟩
                case measure => simp [intOf]; omega
              case neg =>
                have ec := HRT.out.2 hc0
                subst ec
                have g9 : (rc == 0) = false := by rw [beq_eq_false_iff_ne]; exact hc0
                have g10 : (rc != 0) = true := by rw [bne_iff_ne]; exact hc0
                have g11 : (rc != rc) = false := by simp
                clear hc0
                go_wp2_with fail
                go_round
                case rel => exact ⟨j + 1, HNX.out, by go_num, HV10.out⟩
                case measure => simp [intOf]; omega
            · obtain rfl : j = 2 := by omega
              go_upto_region 31 with (go_at_call 19; refine (WX.out _ HWR.out).mono ?_; rintro e w12 ⟨rfl, hb⟩; have HB12 := Lib.hid hb; clear hb)
              have b13 := Box6.new w12 #[.int .i64 0, .bool false, .int .i64 0, .string ⟨#[]⟩, .slice none 0 0, .slice none 0 0] 25
              have hb13 := HB12.out.alloc HB12.out.size (.cells #[.int .i64 0, .bool false, .int .i64 0, .string ⟨#[]⟩, .slice none 0 0, .slice none 0 0] 25)
              have hs13 : w12.heap.size < (w12.alloc (.cells #[.int .i64 0, .bool false, .int .i64 0, .string ⟨#[]⟩, .slice none 0 0, .slice none 0 0] 25)).heap.size := by simp
              generalize w12.alloc (.cells #[.int .i64 0, .bool false, .int .i64 0, .string ⟨#[]⟩, .slice none 0 0, .slice none 0 0] 25) = v13 at b13 hb13 hs13 ⊢
              have B13 := Lib.hid b13
              have HS13 := Lib.hid hs13
              have HW13 := Lib.hid (bstep HWR.out hb13 HWR.out.size)
              clear b13 hb13 hs13
              go_wp2_with (go_at_call 8; refine (AW.out _ HW13.out).mono ?_; rintro e w14 ⟨rfl, hb⟩; have HB14 := Lib.hid hb; obtain ⟨x0, x1, x2, x3, x4, x5⟩ := (B13.out.later hb HS13.out).six; clear hb)
              go_ret
              exact ⟨rfl, bstep HW13.out HB14.out HW13.out.size⟩

end Go.Proofs.YtlniokpekcoodaaGreatDoor
