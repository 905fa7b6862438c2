/-
  ValuesLast: the law's contract.
-/
import Derived.Test.YtlniokpekcoodaaGreatDoorLawNumbersM
import Derived.Test.YtlniokpekcoodaaGreatDoorValAwakeM
import Derived.Test.YtlniokpekcoodaaGreatDoorTwoP
import Derived.Test.YtlniokpekcoodaaGreatDoorSpecsNM
set_option linter.unusedVariables false
set_option linter.unusedSimpArgs false
namespace Go.Proofs.YtlniokpekcoodaaGreatDoor
open Go.RowKit

/-- The first words, joined by dots. -/
def joinB (ks : List ByteArray) : Nat → ByteArray
  | 0 => ⟨#[]⟩
  | j + 1 => (if j = 0 then joinB ks j else joinB ks j ++ ⟨#[46]⟩) ++ ks.getD j ⟨#[]⟩
theorem joinD_snoc (a : List UInt8) : ∀ L : List (List UInt8), L ≠ [] → joinD (L ++ [a]) = joinD L ++ 46 :: a
  | [], h => absurd rfl h
  | [b], _ => by rw [List.singleton_append, joinD_cons, joinD_one, joinD_one]
  | b :: c :: r, _ => by
    have := joinD_snoc a (c :: r) (by simp)
    rw [List.cons_append, List.cons_append, joinD_cons, ← List.cons_append, this, joinD_cons]
    simp
theorem getD_at {ks : List ByteArray} {j : Nat} (h : j < ks.length) : ks.getD j ⟨#[]⟩ = ks[j] := by rw [List.getD_eq_getElem?_getD, List.getElem?_eq_getElem h]; rfl
theorem joinB_data (ks : List ByteArray) : ∀ j, j + 1 ≤ ks.length → (joinB ks (j + 1)).data.toList = joinD (datS (ks.take (j + 1)))
  | 0, h => by
    have h0 : 0 < ks.length := h
    rw [joinB, if_pos rfl, joinB, getD_at h0, List.take_succ_eq_append_getElem h0]
    simp [datS, joinD_one, ByteArray.data_append]
  | j + 1, h => by
    have ih := joinB_data ks j (by omega)
    have hj : j + 1 < ks.length := h
    rw [joinB, if_neg (by omega), getD_at hj, List.take_succ_eq_append_getElem hj]
    have hlen : (datS (ks.take (j + 1))).length = j + 1 := by unfold datS; rw [List.length_map, List.length_take]; omega
    have hne : datS (ks.take (j + 1)) ≠ [] := by
      intro e
      rw [e] at hlen
      simp at hlen
    have e : datS (ks.take (j + 1) ++ [ks[j + 1]]) = datS (ks.take (j + 1)) ++ [ks[j + 1].data.toList] := by unfold datS; rw [List.map_append]; rfl
    rw [e, joinD_snoc _ _ hne, ← ih]
    simp [ByteArray.data_append]
theorem joinB_size (ks : List ByteArray) : ∀ j, (∀ i (h : i < ks.length), i < j → ks[i].size ≤ 256) → j ≤ ks.length → (joinB ks j).size ≤ 257 * j
  | 0, _, _ => Nat.le_refl 0
  | j + 1, h, hl => by
    have ih := joinB_size ks j (fun i hi hj => h i hi (by omega)) (by omega)
    have hj := h j (by omega) (by omega)
    rw [joinB, getD_at (by omega)]
    have e1 : (⟨#[46]⟩ : ByteArray).size = 1 := rfl
    split <;> simp only [ByteArray.size_append] <;> omega
theorem joinB_path {ks : List ByteArray} (hw : ∀ i (h : i < ks.length), wordL ks[i].data.toList = true) (h0 : ks ≠ []) (hl : ks.length ≤ 15) : PathOf ks (joinB ks ks.length) := by
  obtain ⟨n, hn⟩ : ∃ n, ks.length = n + 1 := ⟨ks.length - 1, by have := List.length_pos_iff.2 h0; omega⟩
  refine ⟨?_, fun k hk => ?_, h0, hl⟩
  · rw [hn, joinB_data ks n (by omega), List.take_of_length_le (by omega)]
  · obtain ⟨i, hi, rfl⟩ := List.mem_iff_getElem.1 hk
    exact hw i hi

theorem wf_lo {n : Int} (h : (Lit.int .i64 n).wf = true) : -9223372036854775808 ≤ n := ((Lit.wf_int_iff _ _).1 h).1
theorem wf_hi {n : Int} (h : (Lit.int .i64 n).wf = true) : n ≤ 9223372036854775807 := ((Lit.wf_int_iff _ _).1 h).2
theorem digits_any (n : Int) (h0 : -9223372036854775808 ≤ n) (h1 : n ≤ 9223372036854775807) (w : World) : Calls Tryz.prog 21 #[.int .i64 n] w fun e w' => e = .returned (.string ⟨(Lib.itoa n).toArray⟩) ∧ Below w.heap.size w w' := by
  by_cases h : n < 0
  · obtain ⟨u, rfl⟩ : ∃ u : Nat, n = -(u : Int) := ⟨n.natAbs, by omega⟩
    rw [Lib.itoa_neg u (by omega)]
    exact r4Digits_neg u (by omega) (by omega) w
  · obtain ⟨u, rfl⟩ : ∃ u : Nat, n = u := ⟨n.toNat, by omega⟩
    rw [Lib.itoa_nonneg]
    exact r4Digits_pos u (by omega) w

theorem good_sz {t : T} (h : t.good = true) : t.size ≤ 4096 := by
  unfold T.good at h
  simp only [Bool.and_eq_true, decide_eq_true_eq] at h
  have h2 := h.2
  unfold T.check at h2
  by_cases h16 : 16 < t.depth
  · rw [if_pos h16] at h2; omega
  · rw [if_neg h16] at h2
    by_cases h4 : 4096 < t.size
    · rw [if_pos h4] at h2; omega
    · omega
/-- A value keeps lying where a new variable that it does not go through is stored into. -/
theorem lies_setRow {w : World} {B g : Nat} {t : T} {cs : Array Value} (vs : List Value) (h : Lies w (fun b => B ≤ b ∧ b ≠ g) t cs) : Lies (setRow w g 0 vs) (fun b => B ≤ b) t cs :=
  (h.keep (fun b hb => setRow_heap _ _ _ _ _ hb.2)).weaken fun b hb => hb.1

set_option maxRecDepth 100000 in
set_option maxHeartbeats 16000000 in
theorem valuesLast_any {w : World} {R : Nat → Prop} {t : T} {cs : Array Value} {ks : List ByteArray} {sa : Option Addr} {sc : Nat} (h : Lies w R t cs) (hS : SliceS w ks sa sc) (a b : Int) (ha : (Lit.int .i64 a).wf = true) (hb : (Lit.int .i64 b).wf = true) (m : Int) (hm : w.cell? ⟨0, 0, none⟩ = some (.int .i64 m)) (h0 : 0 < w.heap.size) :
    Calls Tryz.prog 4 #[.agg cs, .slice sa ks.length sc, .int .i64 a, .int .i64 b] w fun e w' => e = .returned (.bool true) ∧ Below w.heap.size w w' := by
  have AW : Hid (∀ w1, Below w.heap.size w w1 → Calls Tryz.prog 8 #[] w1 fun e w' => e = .returned (.bool true) ∧ Below w1.heap.size w1 w') := fun w1 hb => l11awake_any w1 m ((hb.cell (p := ⟨0, 0, none⟩) h0).trans hm) (Nat.lt_of_lt_of_le h0 hb.size)
  have HM := Lib.hid hm
  obtain ⟨c0, c1, c2, c3, c4, c4l, c4c, c5, c5l, c5c, rfl⟩ := h.six
  have H := Lib.hid h
  have HS := Lib.hid hS
  have hle := hS.le
  have hbig := hS.big
  have hb1 : Below w.heap.size w (w.alloc (.cells #[.int .i64 c0, .bool c1, .int .i64 c2, .string c3, .slice c4 c4l c4c, .slice c5 c5l c5c] 25)) := (Below.refl _ _).alloc (Nat.le_refl _) _
  have BX := Lib.hid (Box6.new w #[.int .i64 c0, .bool c1, .int .i64 c2, .string c3, .slice c4 c4l c4c, .slice c5 c5l c5c] 25)
  have hs1 : w.heap.size < (w.alloc (.cells #[.int .i64 c0, .bool c1, .int .i64 c2, .string c3, .slice c4 c4l c4c, .slice c5 c5l c5c] 25)).heap.size := by simp
  have RG := Lib.hid (fun w1 hb => l11right_any h w1 hb)
  have HB1 := Lib.hid hb1
  have HS1 := Lib.hid hs1
  clear h hS hb1 hs1 hm
  generalize hgb : (t.good && decide (t.kind = 5)) = gb at RG
  cases gb with
  | false =>
    clear hgb
    go_enter Tryz.func4, Tryz.ntmps4
    go_upto_region 1 with fail
    generalize w.alloc (.cells #[.int .i64 c0, .bool c1, .int .i64 c2, .string c3, .slice c4 c4l c4c, .slice c5 c5l c5c] 25) = v at *
    obtain ⟨x0, x1, x2, x3, x4, x5⟩ := BX.out.six
    go_wp2_with (first
      | (go_at_call 6; refine (RG.out _ HB1.out).mono ?_; rintro e w1 ⟨rfl, hb⟩; have HB2 := Lib.hid (bstep HB1.out hb HB1.out.size); clear hb)
      | (go_at_call 8; refine (AW.out _ HB2.out).mono ?_; rintro e w2 ⟨rfl, hb2⟩))
    go_ret
    exact ⟨rfl, bstep HB2.out hb2 HB2.out.size⟩
  | true =>
  simp only [Bool.and_eq_true] at hgb
  have hgood := hgb.1
  have htz := good_sz hgood
  have htd := t.depth_le_size
  have DE : Hid (∀ w1, Below w.heap.size w w1 → Calls Tryz.prog 20 #[.agg #[.int .i64 c0, .bool c1, .int .i64 c2, .string c3, .slice c4 c4l c4c, .slice c5 c5l c5c]] w1 fun e w' => e = .returned (.int .i64 t.depth) ∧ Below w1.heap.size w1 w') := fun w1 hb => tDepth_any H.out w1 hb (by omega)
  have HTP := Lib.hid (good_parts hgood)
  have HTZ := Lib.hid htz
  clear hgb hgood htz htd
  by_cases hl0 : ks.length = 0
  case pos =>
    have g1 : ((ks.length : Int) == 0) = true := by rw [hl0]; rfl
    go_enter Tryz.func4, Tryz.ntmps4
    go_upto_region 1 with fail
    generalize w.alloc (.cells #[.int .i64 c0, .bool c1, .int .i64 c2, .string c3, .slice c4 c4l c4c, .slice c5 c5l c5c] 25) = v at *
    obtain ⟨x0, x1, x2, x3, x4, x5⟩ := BX.out.six
    go_wp2_with (first
      | (go_at_call 6; refine (RG.out _ HB1.out).mono ?_; rintro e w1 ⟨rfl, hb⟩; have HB2 := Lib.hid (bstep HB1.out hb HB1.out.size); clear hb)
      | (go_at_call 8; refine (AW.out _ HB2.out).mono ?_; rintro e w2 ⟨rfl, hb2⟩))
    go_ret
    exact ⟨rfl, bstep HB2.out hb2 HB2.out.size⟩
  have g1 : ((ks.length : Int) == 0) = false := by rw [beq_eq_false_iff_ne]; omega
  by_cases hl6 : ks.length ≤ 6
  case neg =>
    have g2 : ((ks.length : Int) > 6) := by omega
    have g3 : decide ((6 : Int) < (ks.length : Int)) = true := decide_eq_true g2
    go_enter Tryz.func4, Tryz.ntmps4
    go_upto_region 1 with fail
    generalize w.alloc (.cells #[.int .i64 c0, .bool c1, .int .i64 c2, .string c3, .slice c4 c4l c4c, .slice c5 c5l c5c] 25) = v at *
    obtain ⟨x0, x1, x2, x3, x4, x5⟩ := BX.out.six
    go_wp2_with (first
      | (go_at_call 6; refine (RG.out _ HB1.out).mono ?_; rintro e w1 ⟨rfl, hb⟩; have HB2 := Lib.hid (bstep HB1.out hb HB1.out.size); clear hb)
      | (go_at_call 8; refine (AW.out _ HB2.out).mono ?_; rintro e w2 ⟨rfl, hb2⟩))
    go_ret
    exact ⟨rfl, bstep HB2.out hb2 HB2.out.size⟩
  have g2 : ¬ ((ks.length : Int) > 6) := by omega
  have g3 : decide ((6 : Int) < (ks.length : Int)) = false := decide_eq_false g2
  obtain ⟨td, htd⟩ : ∃ td : Nat, td = t.depth := ⟨_, rfl⟩
  rw [← htd] at DE
  have HTD := Lib.hid htd
  clear htd
  by_cases hd8 : td ≤ 8
  case neg =>
    have g4 : ((td : Int) > 8) := by omega
    have g5 : decide ((8 : Int) < (td : Int)) = true := decide_eq_true g4
    go_enter Tryz.func4, Tryz.ntmps4
    go_upto_region 1 with fail
    generalize w.alloc (.cells #[.int .i64 c0, .bool c1, .int .i64 c2, .string c3, .slice c4 c4l c4c, .slice c5 c5l c5c] 25) = v at *
    obtain ⟨x0, x1, x2, x3, x4, x5⟩ := BX.out.six
    go_wp2_with (first
      | (go_at_call 6; refine (RG.out _ HB1.out).mono ?_; rintro e w1 ⟨rfl, hb⟩; have HB2 := Lib.hid (bstep HB1.out hb HB1.out.size); have HB2b := Lib.hid hb; clear hb x0 x1 x2 x3 x4 x5; obtain ⟨x0, x1, x2, x3, x4, x5⟩ := (BX.out.later HB2b.out HS1.out).six)
      | (go_at_call 20; refine (DE.out _ HB2.out).mono ?_; rintro e w2 ⟨rfl, hb⟩; have HB3 := Lib.hid (bstep HB2.out hb HB2.out.size); clear hb)
      | (go_at_call 8; refine (AW.out _ HB3.out).mono ?_; rintro e w3 ⟨rfl, hb2⟩))
    go_ret
    exact ⟨rfl, bstep HB3.out hb2 HB3.out.size⟩
  have g4 : ¬ ((td : Int) > 8) := by omega
  have g5 : decide ((8 : Int) < (td : Int)) = false := decide_eq_false g4
  have HD8 := Lib.hid hd8
  clear hd8
  go_enter Tryz.func4, Tryz.ntmps4
  go_upto_region 1 with fail
  generalize w.alloc (.cells #[.int .i64 c0, .bool c1, .int .i64 c2, .string c3, .slice c4 c4l c4c, .slice c5 c5l c5c] 25) = v at *
  obtain ⟨x0, x1, x2, x3, x4, x5⟩ := BX.out.six
  go_wp2_with (first
    | (go_at_call 6; refine (RG.out _ HB1.out).mono ?_; rintro e w1 ⟨rfl, hb⟩; have HB2 := Lib.hid (bstep HB1.out hb HB1.out.size); have HB2b := Lib.hid hb; clear hb x0 x1 x2 x3 x4 x5; obtain ⟨x0, x1, x2, x3, x4, x5⟩ := (BX.out.later HB2b.out HS1.out).six)
    | (go_at_call 20; refine (DE.out _ HB2.out).mono ?_; rintro e w2 ⟨rfl, hb⟩; have HB3b := Lib.hid (bstep HB2b.out hb HB2b.out.size); have HB3 := Lib.hid (bstep HB2.out hb HB2.out.size); clear hb))
  have BX2 := Lib.hid (BX.out.later HB3b.out HS1.out)
  have hs2 := Nat.lt_of_lt_of_le HS1.out HB3b.out.size
  have HS2 := Lib.hid hs2
  have HK2 := Lib.hid (HS.out.later HB3.out)
  clear x0 x1 x2 x3 x4 x5 hs2 HB2 HB2b HB3b HB1 HS1 BX
  go_loop [9, 43] (fun v9 vi => ∃ j : Nat, j ≤ ks.length ∧ vi = .int .i64 j ∧ v9 = .string (joinB ks j) ∧ Hid (∀ i (h : i < ks.length), i < j → wordL ks[i].data.toList = true)) (fun _ vi => ks.length - (intOf vi).toNat)
  case atStart => exact ⟨0, Nat.zero_le _, rfl, rfl, fun i h hi => absurd hi (Nat.not_lt_zero i)⟩
  case round =>
    obtain ⟨j, hj, rfl, rfl, hwd⟩ := hrel
    have HWD := Lib.hid hwd
    clear hwd
    by_cases hjl : j < ks.length
    · obtain ⟨bb, oo, rfl⟩ := HK2.out.ofSome (by omega)
      have r0 := HK2.out.cell j hjl bb oo rfl
      have HC := Lib.hid (r2Word_any ks[j] (HK2.out.sizes j hjl))
      have hjb := joinB_size ks j (fun i hi hij => by have := (word_len (HWD.out.out i hi hij)).2; rw [Lib.size_eq]; omega) hj
      have hsz := HK2.out.sizes j hjl
      cases hwj : wordL ks[j].data.toList with
      | false =>
        rw [hwj] at HC
        clear hwj
        go_wp2_with (first
          | (go_at_call 13; refine (HC.out _).mono ?_; rintro e w9 ⟨rfl, hw9⟩; have hw92 := hw9.symm; subst hw92)
          | (go_at_call 8; refine (AW.out _ HB3.out).mono ?_; rintro e w4 ⟨rfl, hb2⟩))
        go_ret
        exact ⟨rfl, bstep HB3.out hb2 HB3.out.size⟩
      | true =>
        rw [hwj] at HC
        have HWJ := Lib.hid hwj
        have hkz : ks[j].size ≤ 256 := by have := (word_len hwj).2; rw [Lib.size_eq]; omega
        clear hwj
        by_cases hz1 : ks[j].size ≤ 100
        · have g6 : ¬ ((ks[j].size : Int) > 100) := by omega
          have g7 : decide ((100 : Int) < (ks[j].size : Int)) = false := decide_eq_false g6
          have HW1 : Hid (∀ i (h : i < ks.length), i < j + 1 → wordL ks[i].data.toList = true) := fun i h hi => by
            by_cases e : i = j
            · subst e; exact HWJ.out
            · exact HWD.out.out i h (by omega)
          obtain ⟨JB, hJB⟩ : ∃ JB, JB = joinB ks j := ⟨_, rfl⟩
          rw [← hJB] at hjb ⊢
          have HJB := Lib.hid hJB
          clear hJB
          have hjz : JB.size ≤ 3000 := by omega
          clear hjb
          have e46 : (⟨#[46]⟩ : ByteArray).size = 1 := rfl
          by_cases hj0 : j = 0
          · have g8 : ¬ ((j : Int) > 0) := by omega
            have HJ0 := Lib.hid hj0
            clear hj0
            go_wp2_with (go_at_call 13; refine (HC.out _).mono ?_; rintro e w9 ⟨rfl, hw9⟩; have hw92 := hw9.symm; subst hw92)
            go_round
            case rel => exact ⟨j + 1, by omega, by go_num, by rw [HJB.out, joinB, if_pos HJ0.out, getD_at hjl], HW1.out⟩
            case measure => simp [intOf]; omega
          · have g8 : ((j : Int) > 0) := by omega
            go_wp2_with (go_at_call 13; refine (HC.out _).mono ?_; rintro e w9 ⟨rfl, hw9⟩; have hw92 := hw9.symm; subst hw92)
            go_round
            case rel => exact ⟨j + 1, by omega, by go_num, by rw [HJB.out, joinB, if_neg hj0, getD_at hjl], HW1.out⟩
            case measure => simp [intOf]; omega
        · have g6 : ((ks[j].size : Int) > 100) := by omega
          have g7 : decide ((100 : Int) < (ks[j].size : Int)) = true := decide_eq_true g6
          go_wp2_with (first
            | (go_at_call 13; refine (HC.out _).mono ?_; rintro e w9 ⟨rfl, hw9⟩; have hw92 := hw9.symm; subst hw92)
            | (go_at_call 8; refine (AW.out _ HB3.out).mono ?_; rintro e w4 ⟨rfl, hb2⟩))
          go_ret
          exact ⟨rfl, bstep HB3.out hb2 HB3.out.size⟩
    · obtain rfl : j = ks.length := by omega
      have hpath := joinB_path (fun i h => HWD.out.out i h h) (fun e => by rw [e] at hl0; exact hl0 rfl) (by omega)
      have hpz := joinB_size ks ks.length (fun i hi hij => by have := (word_len (HWD.out.out i hi hij)).2; rw [Lib.size_eq]; omega) (Nat.le_refl _)
      have hpz2 : (joinB ks ks.length).size ≤ 1600 := by omega
      have HWK : Hid (∀ k ∈ ks, wordL k.data.toList = true) := hpath.words
      have HNE : Hid (ks ≠ []) := hpath.some
      obtain ⟨P, hP⟩ : ∃ P, P = joinB ks ks.length := ⟨_, rfl⟩
      rw [← hP] at hpath hpz2 ⊢
      have HPATH := Lib.hid hpath
      have HPZ := Lib.hid hpz2
      obtain ⟨o, ho⟩ : ∃ o, o = T.over t (pathU ks (intT a)) := ⟨_, rfl⟩
      obtain ⟨e1, e2, e3, e4⟩ := set_first HTP.out (by rw [← HTD.out]; exact HD8.out) HWK.out hl6 o ho
      obtain ⟨Da, hDa⟩ : ∃ Da : ByteArray, Da = ⟨(Lib.itoa a).toArray⟩ := ⟨_, rfl⟩
      obtain ⟨Db, hDb⟩ : ∃ Db : ByteArray, Db = ⟨(Lib.itoa b).toArray⟩ := ⟨_, rfl⟩
      have HDA := Lib.hid hDa
      have HDB := Lib.hid hDb
      have HDZ_a : Hid (Da.size ≤ 40) := by
        show _ ≤ _
        rw [hDa]
        exact (numeral_itoa (wf_lo ha) (wf_hi ha)).size
      have HDZ_b : Hid (Db.size ≤ 40) := by
        show _ ≤ _
        rw [hDb]
        exact (numeral_itoa (wf_lo hb) (wf_hi hb)).size
      have DIG_a : Hid (∀ W, Calls Tryz.prog 21 #[.int .i64 a] W fun e w' => e = .returned (.string Da) ∧ Below W.heap.size W w') := fun W => by rw [hDa]; exact digits_any a (wf_lo ha) (wf_hi ha) W
      have DIG_b : Hid (∀ W, Calls Tryz.prog 21 #[.int .i64 b] W fun e w' => e = .returned (.string Db) ∧ Below W.heap.size W w') := fun W => by rw [hDb]; exact digits_any b (wf_lo hb) (wf_hi hb) W
      have HBB := Lib.hid hb
      have CM : Hid (∀ w1, Below w.heap.size w w1 → w1.cell? ⟨0, 0, none⟩ = some (.int .i64 m) ∧ 0 < w1.heap.size) := fun w1 hb => ⟨(hb.cell (p := ⟨0, 0, none⟩) h0).trans HM.out, Nat.lt_of_lt_of_le h0 hb.size⟩
      obtain ⟨rt, rc, hrt⟩ : ∃ rt rc, (rt, rc) = overC o := ⟨_, _, rfl⟩
      have SET1 : Hid (∀ w1, Below w2.heap.size w2 w1 → Calls Tryz.prog 10 #[.agg #[.int .i64 c0, .bool c1, .int .i64 c2, .string c3, .slice c4 c4l c4c, .slice c5 c5l c5c], .string (P ++ ⟨#[61]⟩ ++ Da)] w1 (SetIn w1 (rt, rc))) := fun w1 hb1 => by
        rw [hrt, ho, HDA.out]
        exact set_int H.out (by have := HTZ.out; omega) HPATH.out (by have := HPZ.out; omega) a ha w1 (bstep HB3.out hb1 HB3.out.size) m (CM.out w1 (bstep HB3.out hb1 HB3.out.size)).1 (CM.out w1 (bstep HB3.out hb1 HB3.out.size)).2
      rw [e4] at hrt
      have HRT := Lib.hid hrt
      have E1 := Lib.hid e1
      have E2 := Lib.hid e2
      have E3 := Lib.hid e3
      clear hpath hpz hpz2 hP ho e1 e2 e3 e4 hrt ha hb hDa hDb
      obtain ⟨x0, x1, x2, x3, x4, x5⟩ := BX2.out.six
      by_cases hoz : 4096 < o.size
      · obtain ⟨rfl, rfl⟩ : rt = T.nil ∧ rc = 6 := by have := HRT.out; rw [if_pos hoz] at this; exact Prod.mk.inj this
        clear HRT hoz
        go_upto_region 13 with fail
        refine wp_region_specsN w2 11 10 (fun i => match i with | 0 => 66 | 1 => 67 | 2 => 68 | 3 => 69 | 4 => 70 | 5 => 71 | 6 => 72 | 7 => 65 | 8 => 73 | 9 => 74 | 10 => 12 | 11 => 13 | _ => 0) (fun i => decide (i = 9)) (fun i x wx => match i with | 0 => x = .agg #[.int .i64 c0, .bool c1, .int .i64 c2, .string c3, .slice c4 c4l c4c, .slice c5 c5l c5c] | 1 => x = .string P | 2 => x = .string (P ++ ⟨#[61]⟩) | 3 => x = .int .i64 a | 4 => x = .string Da | 5 => x = .string (P ++ ⟨#[61]⟩ ++ Da) | 9 => x = .int .i64 6 | 6 => ∃ (f0 : Int) (f1 : Bool) (f2 : Int) (f3 : ByteArray) (f4 : Option Addr) (f4l f4c : Nat) (f5 : Option Addr) (f5l f5c : Nat), x = .tuple #[.agg #[.int .i64 f0, .bool f1, .int .i64 f2, .string f3, .slice f4 f4l f4c, .slice f5 f5l f5c], .int .i64 6] ∧ Lies wx (fun b => w2.heap.size ≤ b) T.nil #[.int .i64 f0, .bool f1, .int .i64 f2, .string f3, .slice f4 f4l f4c, .slice f5 f5l f5c] | 7 => ∃ (f0 : Int) (f1 : Bool) (f2 : Int) (f3 : ByteArray) (f4 : Option Addr) (f4l f4c : Nat) (f5 : Option Addr) (f5l f5c : Nat), x = .tuple #[.agg #[.int .i64 f0, .bool f1, .int .i64 f2, .string f3, .slice f4 f4l f4c, .slice f5 f5l f5c], .int .i64 6] ∧ Lies wx (fun b => w2.heap.size ≤ b) T.nil #[.int .i64 f0, .bool f1, .int .i64 f2, .string f3, .slice f4 f4l f4c, .slice f5 f5l f5c] | 8 => ∃ (f0 : Int) (f1 : Bool) (f2 : Int) (f3 : ByteArray) (f4 : Option Addr) (f4l f4c : Nat) (f5 : Option Addr) (f5l f5c : Nat), x = .agg #[.int .i64 f0, .bool f1, .int .i64 f2, .string f3, .slice f4 f4l f4c, .slice f5 f5l f5c] ∧ Lies wx (fun b => w2.heap.size ≤ b) T.nil #[.int .i64 f0, .bool f1, .int .i64 f2, .string f3, .slice f4 f4l f4c, .slice f5 f5l f5c] | 10 => ∃ g : Nat, x = .pointer (some ⟨g, 0, none⟩) ∧ ZB wx g ∧ w2.heap.size ≤ g | _ => True) (fun i x yv wx => match i with | 6 => ∀ g, yv = .pointer (some ⟨g, 0, none⟩) → ∃ (f0 : Int) (f1 : Bool) (f2 : Int) (f3 : ByteArray) (f4 : Option Addr) (f4l f4c : Nat) (f5 : Option Addr) (f5l f5c : Nat), x = .tuple #[.agg #[.int .i64 f0, .bool f1, .int .i64 f2, .string f3, .slice f4 f4l f4c, .slice f5 f5l f5c], .int .i64 6] ∧ Lies wx (fun b => w2.heap.size ≤ b ∧ b ≠ g) T.nil #[.int .i64 f0, .bool f1, .int .i64 f2, .string f3, .slice f4 f4l f4c, .slice f5 f5l f5c] | 7 => ∀ g, yv = .pointer (some ⟨g, 0, none⟩) → ∃ (f0 : Int) (f1 : Bool) (f2 : Int) (f3 : ByteArray) (f4 : Option Addr) (f4l f4c : Nat) (f5 : Option Addr) (f5l f5c : Nat), x = .tuple #[.agg #[.int .i64 f0, .bool f1, .int .i64 f2, .string f3, .slice f4 f4l f4c, .slice f5 f5l f5c], .int .i64 6] ∧ Lies wx (fun b => w2.heap.size ≤ b ∧ b ≠ g) T.nil #[.int .i64 f0, .bool f1, .int .i64 f2, .string f3, .slice f4 f4l f4c, .slice f5 f5l f5c] | 8 => ∀ g, yv = .pointer (some ⟨g, 0, none⟩) → ∃ (f0 : Int) (f1 : Bool) (f2 : Int) (f3 : ByteArray) (f4 : Option Addr) (f4l f4c : Nat) (f5 : Option Addr) (f5l f5c : Nat), x = .agg #[.int .i64 f0, .bool f1, .int .i64 f2, .string f3, .slice f4 f4l f4c, .slice f5 f5l f5c] ∧ Lies wx (fun b => w2.heap.size ≤ b ∧ b ≠ g) T.nil #[.int .i64 f0, .bool f1, .int .i64 f2, .string f3, .slice f4 f4l f4c, .slice f5 f5l f5c] | _ => True) (fun i x => match i with | 0 => x = .agg #[.int .i64 c0, .bool c1, .int .i64 c2, .string c3, .slice c4 c4l c4c, .slice c5 c5l c5c] | 1 => x = .string P | 2 => x = .string (P ++ ⟨#[61]⟩) | 3 => x = .int .i64 a | 4 => x = .string Da | 5 => x = .string (P ++ ⟨#[61]⟩ ++ Da) | 9 => x = .int .i64 6 | 6 => ∃ (f0 : Int) (f1 : Bool) (f2 : Int) (f3 : ByteArray) (f4 : Option Addr) (f4l f4c : Nat) (f5 : Option Addr) (f5l f5c : Nat), x = .tuple #[.agg #[.int .i64 f0, .bool f1, .int .i64 f2, .string f3, .slice f4 f4l f4c, .slice f5 f5l f5c], .int .i64 6] | 7 => ∃ (f0 : Int) (f1 : Bool) (f2 : Int) (f3 : ByteArray) (f4 : Option Addr) (f4l f4c : Nat) (f5 : Option Addr) (f5l f5c : Nat), x = .tuple #[.agg #[.int .i64 f0, .bool f1, .int .i64 f2, .string f3, .slice f4 f4l f4c, .slice f5 f5l f5c], .int .i64 6] | 8 => ∃ (f0 : Int) (f1 : Bool) (f2 : Int) (f3 : ByteArray) (f4 : Option Addr) (f4l f4c : Nat) (f5 : Option Addr) (f5l f5c : Nat), x = .agg #[.int .i64 f0, .bool f1, .int .i64 f2, .string f3, .slice f4 f4l f4c, .slice f5 f5l f5c] | 10 => ∃ g : Nat, x = .pointer (some ⟨g, 0, none⟩) ∧ w2.heap.size ≤ g | 11 => x = .int .i64 6 | _ => True) (fun x wx => ∃ (g : Nat) (f0 : Int) (f1 : Bool) (f2 : Int) (f3 : ByteArray) (f4 : Option Addr) (f4l f4c : Nat) (f5 : Option Addr) (f5l f5c : Nat), x = .pointer (some ⟨g, 0, none⟩) ∧ Hid (Box6 wx g #[.int .i64 f0, .bool f1, .int .i64 f2, .string f3, .slice f4 f4l f4c, .slice f5 f5l f5c]) ∧ Hid (Lies wx (fun b => w2.heap.size ≤ b) T.nil #[.int .i64 f0, .bool f1, .int .i64 f2, .string f3, .slice f4 f4l f4c, .slice f5 f5l f5c]) ∧ w2.heap.size ≤ g ∧ g < wx.heap.size ∧ Below w2.heap.size w2 wx) (by kernel_rfl) (by kernel_rfl) ?s1 (by decide) (by decide) (Below.refl _ _) ?s2 ?n1 ?n2 (fun _ _ _ => trivial) ?s3 ?s4 ?s5 ?s6 ?s7 ?s8 ?s9
        case n1 =>
          intro i x y w1 w2 hi hb hN
          match i, hN with
          | 6, h => exact fun g e => by obtain ⟨f0, f1, f2, f3, f4, f4l, f4c, f5, f5l, f5c, e2, hl⟩ := h g e; exact ⟨f0, f1, f2, f3, f4, f4l, f4c, f5, f5l, f5c, e2, hl.later hb⟩
          | 7, h => exact fun g e => by obtain ⟨f0, f1, f2, f3, f4, f4l, f4c, f5, f5l, f5c, e2, hl⟩ := h g e; exact ⟨f0, f1, f2, f3, f4, f4l, f4c, f5, f5l, f5c, e2, hl.later hb⟩
          | 8, h => exact fun g e => by obtain ⟨f0, f1, f2, f3, f4, f4l, f4c, f5, f5l, f5c, e2, hl⟩ := h g e; exact ⟨f0, f1, f2, f3, f4, f4l, f4c, f5, f5l, f5c, e2, hl.later hb⟩
          | 0, _ | 1, _ | 2, _ | 3, _ | 4, _ | 5, _ | 9, _ | 10, _ => trivial
          | (k + 11), _ => trivial
        case n2 =>
          intro i x y w1 hL
          obtain rfl : i = 9 := of_decide_eq_true hL
          trivial
        case s1 => intro i hi; rcases (by omega : i = 0 ∨ i = 1 ∨ i = 2 ∨ i = 3 ∨ i = 4 ∨ i = 5 ∨ i = 6 ∨ i = 7 ∨ i = 8 ∨ i = 9 ∨ i = 10 ∨ i = 11) with rfl | rfl | rfl | rfl | rfl | rfl | rfl | rfl | rfl | rfl | rfl | rfl <;> exact Nat.lt_of_lt_of_le (by decide : _ < 133) (Nat.le_refl 133)
        case s2 =>
          intro i x w1 w2 hb hU
          match i, hU with
          | 6, ⟨f0, f1, f2, f3, f4, f4l, f4c, f5, f5l, f5c, e, hl⟩ => exact ⟨f0, f1, f2, f3, f4, f4l, f4c, f5, f5l, f5c, e, hl.later hb⟩
          | 7, ⟨f0, f1, f2, f3, f4, f4l, f4c, f5, f5l, f5c, e, hl⟩ => exact ⟨f0, f1, f2, f3, f4, f4l, f4c, f5, f5l, f5c, e, hl.later hb⟩
          | 8, ⟨f0, f1, f2, f3, f4, f4l, f4c, f5, f5l, f5c, e, hl⟩ => exact ⟨f0, f1, f2, f3, f4, f4l, f4c, f5, f5l, f5c, e, hl.later hb⟩
          | 10, ⟨g, e, hz, hg⟩ => exact ⟨g, e, hz.later hb, hg⟩
          | 0, h | 1, h | 2, h | 3, h | 4, h | 5, h | 9, h => exact h
          | (k + 11), _ => trivial
        case s3 =>
          intro i x w1 hi hU
          match i, hU with
          | 6, ⟨f0, f1, f2, f3, f4, f4l, f4c, f5, f5l, f5c, e, hl⟩ => exact ⟨f0, f1, f2, f3, f4, f4l, f4c, f5, f5l, f5c, e⟩
          | 7, ⟨f0, f1, f2, f3, f4, f4l, f4c, f5, f5l, f5c, e, hl⟩ => exact ⟨f0, f1, f2, f3, f4, f4l, f4c, f5, f5l, f5c, e⟩
          | 8, ⟨f0, f1, f2, f3, f4, f4l, f4c, f5, f5l, f5c, e, hl⟩ => exact ⟨f0, f1, f2, f3, f4, f4l, f4c, f5, f5l, f5c, e⟩
          | 10, ⟨g, e, hz, hg⟩ => exact ⟨g, e, hg⟩
          | 0, h | 1, h | 2, h | 3, h | 4, h | 5, h | 9, h => exact h
          | (k + 11), _ => omega
        case s4 =>
          intro i x w1 hi hL hU
          obtain rfl : i = 9 := of_decide_eq_true hL
          exact hU
        case s5 =>
          intro i o ac wb K' ho hi hL hA hB hdep hK
          have sv4 : ac.tmps[4]?.getD undef = .pointer (some ⟨w.heap.size, 0, none⟩) := hA.sl (t := 4) (by decide)
          have sv9 : ac.tmps[9]?.getD undef = .string P := hA.sl (t := 9) (by decide)
          have sv2 : ac.tmps[2]?.getD undef = .int .i64 a := hA.sl (t := 2) (by decide)
          have x0 := cells_frame hB x0
          have x1 := cells_frame hB x1
          have x2 := cells_frame hB x2
          have x3 := cells_frame hB x3
          have x4 := cells_frame hB x4
          have x5 := cells_frame hB x5
          have hL : i ≠ 9 := of_decide_eq_false hL
          rcases (by omega : i = 0 ∨ i = 1 ∨ i = 2 ∨ i = 3 ∨ i = 4 ∨ i = 5 ∨ i = 6 ∨ i = 7 ∨ i = 8 ∨ i = 10) with rfl | rfl | rfl | rfl | rfl | rfl | rfl | rfl | rfl | rfl
          · simp at ho
            subst ho
            clear hdep hA
            go_simp
            exact hK _ wb (Below.refl _ _) rfl (fun _ _ _ _ => trivial) (fun e => absurd e (by decide))
          · simp at ho
            subst ho
            clear hdep hA
            go_simp
            exact hK _ wb (Below.refl _ _) rfl (fun _ _ _ _ => trivial) (fun e => absurd e (by decide))
          · simp at ho
            subst ho
            have z1 : ac.tmps[67]?.getD undef = .string P := hdep { on := 1, ground := .data } (by simp) rfl
            clear hdep hA
            go_simp
            rw [if_neg (by (try simp only [ByteArray.size_append]); have := HPZ.out; have := HDZ_a.out; have e1 : (⟨#[61]⟩ : ByteArray).size = 1 := rfl; omega)]
            go_simp
            exact hK _ wb (Below.refl _ _) rfl (fun _ _ _ _ => trivial) (fun e => absurd e (by decide))
          · simp at ho
            subst ho
            clear hdep hA
            go_simp
            exact hK _ wb (Below.refl _ _) rfl (fun _ _ _ _ => trivial) (fun e => absurd e (by decide))
          · simp at ho
            subst ho
            have z3 : ac.tmps[69]?.getD undef = .int .i64 a := hdep { on := 3, ground := .data } (by simp) rfl
            clear hdep hA
            go_simp
            refine (DIG_a.out wb).mono ?_
            rintro e w5 ⟨rfl, hb5⟩
            exact hK _ w5 hb5 rfl (fun _ _ _ _ => trivial) (fun e => absurd e (by decide))
          · simp at ho
            subst ho
            have z2 : ac.tmps[68]?.getD undef = .string (P ++ ⟨#[61]⟩) := hdep { on := 2, ground := .data } (by simp) rfl
            have z4 : ac.tmps[70]?.getD undef = .string Da := hdep { on := 4, ground := .data } (by simp) rfl
            clear hdep hA
            go_simp
            rw [if_neg (by (try simp only [ByteArray.size_append]); have := HPZ.out; have := HDZ_a.out; have e1 : (⟨#[61]⟩ : ByteArray).size = 1 := rfl; omega)]
            go_simp
            exact hK _ wb (Below.refl _ _) rfl (fun _ _ _ _ => trivial) (fun e => absurd e (by decide))
          · simp at ho
            subst ho
            have z0 : ac.tmps[66]?.getD undef = .agg #[.int .i64 c0, .bool c1, .int .i64 c2, .string c3, .slice c4 c4l c4c, .slice c5 c5l c5c] := hdep { on := 0, ground := .data } (by simp) rfl
            have z5 : ac.tmps[71]?.getD undef = .string (P ++ ⟨#[61]⟩ ++ Da) := hdep { on := 5, ground := .data } (by simp) rfl
            clear hdep hA
            go_simp
            refine (SET1.out wb hB).mono ?_
            rintro e w5 ⟨es, rfl, hl, hb5⟩
            obtain ⟨f0, f1, f2, f3, f4, f4l, f4c, f5, f5l, f5c, rfl⟩ := hl.six
            have hsB := hB.size
            refine hK _ w5 hb5 ⟨f0, f1, f2, f3, f4, f4l, f4c, f5, f5l, f5c, rfl, hl.weaken fun b hb => by omega⟩ (fun _ y hy _ g e => ⟨f0, f1, f2, f3, f4, f4l, f4c, f5, f5l, f5c, rfl, hl.weaken fun b hb => ?_⟩) (fun e => absurd e (by decide))
            obtain ⟨g2, hy2, hz2, _⟩ := hy
            rw [e] at hy2
            injection hy2 with hy2
            injection hy2 with hy2
            injection hy2 with hy2
            have := hz2.lt
            omega
          · simp at ho
            subst ho
            obtain ⟨f0, f1, f2, f3, f4, f4l, f4c, f5, f5l, f5c, z7, hl⟩ := hdep { on := 6, ground := .data } (by simp) rfl
            have z7 : ac.tmps[72]?.getD undef = .tuple #[.agg #[.int .i64 f0, .bool f1, .int .i64 f2, .string f3, .slice f4 f4l f4c, .slice f5 f5l f5c], .int .i64 6] := z7
            clear hdep hA
            go_simp
            refine hK _ wb (Below.refl _ _) ⟨f0, f1, f2, f3, f4, f4l, f4c, f5, f5l, f5c, rfl, hl⟩ (fun _ y hy hd g e => ?_) (fun e => absurd e (by decide))
            obtain ⟨h0, h1, h2, h3, h4, h4l, h4c, h5, h5l, h5c, e2, hl2⟩ := hd { on := 6, ground := .data } (by simp) rfl g e
            have e3 := (show ac.tmps[72]?.getD undef = _ from e2).symm.trans z7
            cases e3
            exact ⟨f0, f1, f2, f3, f4, f4l, f4c, f5, f5l, f5c, rfl, hl2⟩
          · simp at ho
            subst ho
            obtain ⟨f0, f1, f2, f3, f4, f4l, f4c, f5, f5l, f5c, z7, hl⟩ := hdep { on := 7, ground := .data } (by simp) rfl
            have z7 : ac.tmps[65]?.getD undef = .tuple #[.agg #[.int .i64 f0, .bool f1, .int .i64 f2, .string f3, .slice f4 f4l f4c, .slice f5 f5l f5c], .int .i64 6] := z7
            clear hdep hA
            go_simp
            refine hK _ wb (Below.refl _ _) ⟨f0, f1, f2, f3, f4, f4l, f4c, f5, f5l, f5c, rfl, hl⟩ (fun _ y hy hd g e => ?_) (fun e => absurd e (by decide))
            obtain ⟨h0, h1, h2, h3, h4, h4l, h4c, h5, h5l, h5c, e2, hl2⟩ := hd { on := 7, ground := .data } (by simp) rfl g e
            have e3 := (show ac.tmps[65]?.getD undef = _ from e2).symm.trans z7
            cases e3
            exact ⟨f0, f1, f2, f3, f4, f4l, f4c, f5, f5l, f5c, rfl, hl2⟩
          · simp at ho
            subst ho
            clear hdep hA
            go_simp
            refine hK _ _ ((Below.refl _ _).alloc (Nat.le_refl _) _) ⟨wb.heap.size, rfl, ZB.new wb, hB.size⟩ (fun e => absurd rfl e) (fun _ j z hj hz => ?_)
            match j, hz with
            | 6, ⟨f0, f1, f2, f3, f4, f4l, f4c, f5, f5l, f5c, e, hl⟩ => exact fun g eg => by injection eg with eg; injection eg with eg; injection eg with eg; exact ⟨f0, f1, f2, f3, f4, f4l, f4c, f5, f5l, f5c, e, (hl.bound.later ((Below.refl _ _).alloc (Nat.le_refl _) _)).weaken fun b hb => ⟨hb.1, by omega⟩⟩
            | 7, ⟨f0, f1, f2, f3, f4, f4l, f4c, f5, f5l, f5c, e, hl⟩ => exact fun g eg => by injection eg with eg; injection eg with eg; injection eg with eg; exact ⟨f0, f1, f2, f3, f4, f4l, f4c, f5, f5l, f5c, e, (hl.bound.later ((Below.refl _ _).alloc (Nat.le_refl _) _)).weaken fun b hb => ⟨hb.1, by omega⟩⟩
            | 8, ⟨f0, f1, f2, f3, f4, f4l, f4c, f5, f5l, f5c, e, hl⟩ => exact fun g eg => by injection eg with eg; injection eg with eg; injection eg with eg; exact ⟨f0, f1, f2, f3, f4, f4l, f4c, f5, f5l, f5c, e, (hl.bound.later ((Below.refl _ _).alloc (Nat.le_refl _) _)).weaken fun b hb => ⟨hb.1, by omega⟩⟩
            | 0, _ | 1, _ | 2, _ | 3, _ | 4, _ | 5, _ | 9, _ | 10, _ => trivial
            | (k + 11), _ => trivial
        case s6 =>
          intro i o ac wb K' ho hi hL hA hdep hK
          obtain rfl : i = 9 := of_decide_eq_true hL
          simp at ho
          subst ho
          obtain ⟨f0, f1, f2, f3, f4, f4l, f4c, f5, f5l, f5c, z7⟩ := hdep { on := 7, ground := .data } (by simp) rfl
          have z7 : ac.tmps[65]?.getD undef = .tuple #[.agg #[.int .i64 f0, .bool f1, .int .i64 f2, .string f3, .slice f4 f4l f4c, .slice f5 f5l f5c], .int .i64 6] := z7
          clear hdep hA
          go_simp
          exact hK _ rfl
        case s7 =>
          intro o ac wb K' ho hA hB hU hNN hK
          simp at ho
          subst ho
          obtain ⟨g, z10, hzb, hg⟩ := hU 10 (by omega) (by decide)
          obtain ⟨f0, f1, f2, f3, f4, f4l, f4c, f5, f5l, f5c, z8, hl⟩ := hNN 8 (by omega) (by decide) g z10
          have z8 : ac.tmps[73]?.getD undef = .agg #[.int .i64 f0, .bool f1, .int .i64 f2, .string f3, .slice f4 f4l f4c, .slice f5 f5l f5c] := z8
          have z10' : ac.tmps[12]?.getD undef = .pointer (some ⟨g, 0, none⟩) := z10
          have zc : ∀ j, wb.cell? ⟨g, j, none⟩ = (#[.int .i64 0, .bool false, .int .i64 0, .string ⟨#[]⟩, .slice none 0 0, .slice none 0 0] : Array Value)[j]? := hzb.cell
          have zf := hzb.frozen
          have hbx : Box6 (setRow wb g 0 [.int .i64 f0, .bool f1, .int .i64 f2, .string f3, .slice f4 f4l f4c, .slice f5 f5l f5c]) g #[.int .i64 f0, .bool f1, .int .i64 f2, .string f3, .slice f4 f4l f4c, .slice f5 f5l f5c] := row_box6 (zb_rows hzb [.int .i64 f0, .bool f1, .int .i64 f2, .string f3, .slice f4 f4l f4c, .slice f5 f5l f5c] rfl)
          have hlt := hzb.lt
          have hlz := Lib.hid hl
          clear hU hNN hA hl
          go_simp
          exact hK _ ⟨g, f0, f1, f2, f3, f4, f4l, f4c, f5, f5l, f5c, z10, hbx, lies_setRow [.int .i64 f0, .bool f1, .int .i64 f2, .string f3, .slice f4 f4l f4c, .slice f5 f5l f5c] hlz.out, hg, by show _ < (setRow wb g 0 [.int .i64 f0, .bool f1, .int .i64 f2, .string f3, .slice f4 f4l f4c, .slice f5 f5l f5c]).heap.size; rw [setRow_size]; exact hlt, setRow_below g hg [.int .i64 f0, .bool f1, .int .i64 f2, .string f3, .slice f4 f4l f4c, .slice f5 f5l f5c] wb 0 hB⟩
        case s8 =>
          intro o ac wb K' ho hA hVV hK
          simp at ho
          subst ho
          have z9 : ac.tmps[74]?.getD undef = .int .i64 6 := hVV 9 (by omega)
          clear hVV hA
          go_simp
          exact hK _ rfl
        case s9 =>
          intro ac wn hA hVV hF
          obtain ⟨g, f0, f1, f2, f3, f4, f4l, f4c, f5, f5l, f5c, z10, hbx, hf, hg, hgl, hbn⟩ := hF
          have z11 := hVV 11 (by omega)
          have hs : slots 12 (fun i => match i with | 0 => 66 | 1 => 67 | 2 => 68 | 3 => 69 | 4 => 70 | 5 => 71 | 6 => 72 | 7 => 65 | 8 => 73 | 9 => 74 | 10 => 12 | 11 => 13 | _ => 0) = [66, 67, 68, 69, 70, 71, 72, 65, 73, 74, 12, 13] := by rfl
          rw [hs] at hA
          have hac := hA.act (fun t ht => by
            have h8 : t = 66 ∨ t = 67 ∨ t = 68 ∨ t = 69 ∨ t = 70 ∨ t = 71 ∨ t = 72 ∨ t = 65 ∨ t = 73 ∨ t = 74 ∨ t = 12 ∨ t = 13 := by simpa using ht
            rcases h8 with rfl | rfl | rfl | rfl | rfl | rfl | rfl | rfl | rfl | rfl | rfl | rfl <;> exact Nat.lt_of_lt_of_le (by decide : _ < 133) (Nat.le_refl 133))
          rw [List.foldl_cons, List.foldl_cons, List.foldl_cons, List.foldl_cons, List.foldl_cons, List.foldl_cons, List.foldl_cons, List.foldl_cons, List.foldl_cons, List.foldl_cons, List.foldl_cons, List.foldl_cons, List.foldl_nil] at hac
          have z10 : sl ac 12 = .pointer (some ⟨g, 0, none⟩) := z10
          have z11 : sl ac 13 = .int .i64 6 := z11
          rw [z10, z11] at hac
          generalize sl ac 66 = x66 at hac
          generalize sl ac 67 = x67 at hac
          generalize sl ac 68 = x68 at hac
          generalize sl ac 69 = x69 at hac
          generalize sl ac 70 = x70 at hac
          generalize sl ac 71 = x71 at hac
          generalize sl ac 72 = x72 at hac
          generalize sl ac 65 = x65 at hac
          generalize sl ac 73 = x73 at hac
          generalize sl ac 74 = x74 at hac
          clear hA hs hVV z10 z11
          subst hac
          simp only [Act.put, List.setIfInBounds_toArray, List.set_cons_succ, List.set_cons_zero]
          clear hbx hf
          go_wp2_with (go_at_call 8; refine (AW.out _ (bstep HB3.out hbn HB3.out.size)).mono ?_; rintro e w4 ⟨rfl, hb2⟩)
          go_ret
          exact ⟨rfl, bstep (bstep HB3.out hbn HB3.out.size) hb2 (bstep HB3.out hbn HB3.out.size).size⟩
      · obtain ⟨rfl, rfl⟩ : rt = o ∧ rc = 0 := by have := HRT.out; rw [if_neg hoz] at this; exact Prod.mk.inj this
        have HOZ : Hid (rt.size ≤ 4096) := by show _ ≤ _; omega
        clear HRT hoz
        go_upto_region 13 with fail
        refine wp_region_specsN w2 11 10 (fun i => match i with | 0 => 66 | 1 => 67 | 2 => 68 | 3 => 69 | 4 => 70 | 5 => 71 | 6 => 72 | 7 => 65 | 8 => 73 | 9 => 74 | 10 => 12 | 11 => 13 | _ => 0) (fun i => decide (i = 9)) (fun i x wx => match i with | 0 => x = .agg #[.int .i64 c0, .bool c1, .int .i64 c2, .string c3, .slice c4 c4l c4c, .slice c5 c5l c5c] | 1 => x = .string P | 2 => x = .string (P ++ ⟨#[61]⟩) | 3 => x = .int .i64 a | 4 => x = .string Da | 5 => x = .string (P ++ ⟨#[61]⟩ ++ Da) | 9 => x = .int .i64 0 | 6 => ∃ (f0 : Int) (f1 : Bool) (f2 : Int) (f3 : ByteArray) (f4 : Option Addr) (f4l f4c : Nat) (f5 : Option Addr) (f5l f5c : Nat), x = .tuple #[.agg #[.int .i64 f0, .bool f1, .int .i64 f2, .string f3, .slice f4 f4l f4c, .slice f5 f5l f5c], .int .i64 0] ∧ Lies wx (fun b => w2.heap.size ≤ b) rt #[.int .i64 f0, .bool f1, .int .i64 f2, .string f3, .slice f4 f4l f4c, .slice f5 f5l f5c] | 7 => ∃ (f0 : Int) (f1 : Bool) (f2 : Int) (f3 : ByteArray) (f4 : Option Addr) (f4l f4c : Nat) (f5 : Option Addr) (f5l f5c : Nat), x = .tuple #[.agg #[.int .i64 f0, .bool f1, .int .i64 f2, .string f3, .slice f4 f4l f4c, .slice f5 f5l f5c], .int .i64 0] ∧ Lies wx (fun b => w2.heap.size ≤ b) rt #[.int .i64 f0, .bool f1, .int .i64 f2, .string f3, .slice f4 f4l f4c, .slice f5 f5l f5c] | 8 => ∃ (f0 : Int) (f1 : Bool) (f2 : Int) (f3 : ByteArray) (f4 : Option Addr) (f4l f4c : Nat) (f5 : Option Addr) (f5l f5c : Nat), x = .agg #[.int .i64 f0, .bool f1, .int .i64 f2, .string f3, .slice f4 f4l f4c, .slice f5 f5l f5c] ∧ Lies wx (fun b => w2.heap.size ≤ b) rt #[.int .i64 f0, .bool f1, .int .i64 f2, .string f3, .slice f4 f4l f4c, .slice f5 f5l f5c] | 10 => ∃ g : Nat, x = .pointer (some ⟨g, 0, none⟩) ∧ ZB wx g ∧ w2.heap.size ≤ g | _ => True) (fun i x yv wx => match i with | 6 => ∀ g, yv = .pointer (some ⟨g, 0, none⟩) → ∃ (f0 : Int) (f1 : Bool) (f2 : Int) (f3 : ByteArray) (f4 : Option Addr) (f4l f4c : Nat) (f5 : Option Addr) (f5l f5c : Nat), x = .tuple #[.agg #[.int .i64 f0, .bool f1, .int .i64 f2, .string f3, .slice f4 f4l f4c, .slice f5 f5l f5c], .int .i64 0] ∧ Lies wx (fun b => w2.heap.size ≤ b ∧ b ≠ g) rt #[.int .i64 f0, .bool f1, .int .i64 f2, .string f3, .slice f4 f4l f4c, .slice f5 f5l f5c] | 7 => ∀ g, yv = .pointer (some ⟨g, 0, none⟩) → ∃ (f0 : Int) (f1 : Bool) (f2 : Int) (f3 : ByteArray) (f4 : Option Addr) (f4l f4c : Nat) (f5 : Option Addr) (f5l f5c : Nat), x = .tuple #[.agg #[.int .i64 f0, .bool f1, .int .i64 f2, .string f3, .slice f4 f4l f4c, .slice f5 f5l f5c], .int .i64 0] ∧ Lies wx (fun b => w2.heap.size ≤ b ∧ b ≠ g) rt #[.int .i64 f0, .bool f1, .int .i64 f2, .string f3, .slice f4 f4l f4c, .slice f5 f5l f5c] | 8 => ∀ g, yv = .pointer (some ⟨g, 0, none⟩) → ∃ (f0 : Int) (f1 : Bool) (f2 : Int) (f3 : ByteArray) (f4 : Option Addr) (f4l f4c : Nat) (f5 : Option Addr) (f5l f5c : Nat), x = .agg #[.int .i64 f0, .bool f1, .int .i64 f2, .string f3, .slice f4 f4l f4c, .slice f5 f5l f5c] ∧ Lies wx (fun b => w2.heap.size ≤ b ∧ b ≠ g) rt #[.int .i64 f0, .bool f1, .int .i64 f2, .string f3, .slice f4 f4l f4c, .slice f5 f5l f5c] | _ => True) (fun i x => match i with | 0 => x = .agg #[.int .i64 c0, .bool c1, .int .i64 c2, .string c3, .slice c4 c4l c4c, .slice c5 c5l c5c] | 1 => x = .string P | 2 => x = .string (P ++ ⟨#[61]⟩) | 3 => x = .int .i64 a | 4 => x = .string Da | 5 => x = .string (P ++ ⟨#[61]⟩ ++ Da) | 9 => x = .int .i64 0 | 6 => ∃ (f0 : Int) (f1 : Bool) (f2 : Int) (f3 : ByteArray) (f4 : Option Addr) (f4l f4c : Nat) (f5 : Option Addr) (f5l f5c : Nat), x = .tuple #[.agg #[.int .i64 f0, .bool f1, .int .i64 f2, .string f3, .slice f4 f4l f4c, .slice f5 f5l f5c], .int .i64 0] | 7 => ∃ (f0 : Int) (f1 : Bool) (f2 : Int) (f3 : ByteArray) (f4 : Option Addr) (f4l f4c : Nat) (f5 : Option Addr) (f5l f5c : Nat), x = .tuple #[.agg #[.int .i64 f0, .bool f1, .int .i64 f2, .string f3, .slice f4 f4l f4c, .slice f5 f5l f5c], .int .i64 0] | 8 => ∃ (f0 : Int) (f1 : Bool) (f2 : Int) (f3 : ByteArray) (f4 : Option Addr) (f4l f4c : Nat) (f5 : Option Addr) (f5l f5c : Nat), x = .agg #[.int .i64 f0, .bool f1, .int .i64 f2, .string f3, .slice f4 f4l f4c, .slice f5 f5l f5c] | 10 => ∃ g : Nat, x = .pointer (some ⟨g, 0, none⟩) ∧ w2.heap.size ≤ g | 11 => x = .int .i64 0 | _ => True) (fun x wx => ∃ (g : Nat) (f0 : Int) (f1 : Bool) (f2 : Int) (f3 : ByteArray) (f4 : Option Addr) (f4l f4c : Nat) (f5 : Option Addr) (f5l f5c : Nat), x = .pointer (some ⟨g, 0, none⟩) ∧ Hid (Box6 wx g #[.int .i64 f0, .bool f1, .int .i64 f2, .string f3, .slice f4 f4l f4c, .slice f5 f5l f5c]) ∧ Hid (Lies wx (fun b => w2.heap.size ≤ b) rt #[.int .i64 f0, .bool f1, .int .i64 f2, .string f3, .slice f4 f4l f4c, .slice f5 f5l f5c]) ∧ w2.heap.size ≤ g ∧ g < wx.heap.size ∧ Below w2.heap.size w2 wx) (by kernel_rfl) (by kernel_rfl) ?s1 (by decide) (by decide) (Below.refl _ _) ?s2 ?n1 ?n2 (fun _ _ _ => trivial) ?s3 ?s4 ?s5 ?s6 ?s7 ?s8 ?s9
        case n1 =>
          intro i x y w1 w2 hi hb hN
          match i, hN with
          | 6, h => exact fun g e => by obtain ⟨f0, f1, f2, f3, f4, f4l, f4c, f5, f5l, f5c, e2, hl⟩ := h g e; exact ⟨f0, f1, f2, f3, f4, f4l, f4c, f5, f5l, f5c, e2, hl.later hb⟩
          | 7, h => exact fun g e => by obtain ⟨f0, f1, f2, f3, f4, f4l, f4c, f5, f5l, f5c, e2, hl⟩ := h g e; exact ⟨f0, f1, f2, f3, f4, f4l, f4c, f5, f5l, f5c, e2, hl.later hb⟩
          | 8, h => exact fun g e => by obtain ⟨f0, f1, f2, f3, f4, f4l, f4c, f5, f5l, f5c, e2, hl⟩ := h g e; exact ⟨f0, f1, f2, f3, f4, f4l, f4c, f5, f5l, f5c, e2, hl.later hb⟩
          | 0, _ | 1, _ | 2, _ | 3, _ | 4, _ | 5, _ | 9, _ | 10, _ => trivial
          | (k + 11), _ => trivial
        case n2 =>
          intro i x y w1 hL
          obtain rfl : i = 9 := of_decide_eq_true hL
          trivial
        case s1 => intro i hi; rcases (by omega : i = 0 ∨ i = 1 ∨ i = 2 ∨ i = 3 ∨ i = 4 ∨ i = 5 ∨ i = 6 ∨ i = 7 ∨ i = 8 ∨ i = 9 ∨ i = 10 ∨ i = 11) with rfl | rfl | rfl | rfl | rfl | rfl | rfl | rfl | rfl | rfl | rfl | rfl <;> exact Nat.lt_of_lt_of_le (by decide : _ < 133) (Nat.le_refl 133)
        case s2 =>
          intro i x w1 w2 hb hU
          match i, hU with
          | 6, ⟨f0, f1, f2, f3, f4, f4l, f4c, f5, f5l, f5c, e, hl⟩ => exact ⟨f0, f1, f2, f3, f4, f4l, f4c, f5, f5l, f5c, e, hl.later hb⟩
          | 7, ⟨f0, f1, f2, f3, f4, f4l, f4c, f5, f5l, f5c, e, hl⟩ => exact ⟨f0, f1, f2, f3, f4, f4l, f4c, f5, f5l, f5c, e, hl.later hb⟩
          | 8, ⟨f0, f1, f2, f3, f4, f4l, f4c, f5, f5l, f5c, e, hl⟩ => exact ⟨f0, f1, f2, f3, f4, f4l, f4c, f5, f5l, f5c, e, hl.later hb⟩
          | 10, ⟨g, e, hz, hg⟩ => exact ⟨g, e, hz.later hb, hg⟩
          | 0, h | 1, h | 2, h | 3, h | 4, h | 5, h | 9, h => exact h
          | (k + 11), _ => trivial
        case s3 =>
          intro i x w1 hi hU
          match i, hU with
          | 6, ⟨f0, f1, f2, f3, f4, f4l, f4c, f5, f5l, f5c, e, hl⟩ => exact ⟨f0, f1, f2, f3, f4, f4l, f4c, f5, f5l, f5c, e⟩
          | 7, ⟨f0, f1, f2, f3, f4, f4l, f4c, f5, f5l, f5c, e, hl⟩ => exact ⟨f0, f1, f2, f3, f4, f4l, f4c, f5, f5l, f5c, e⟩
          | 8, ⟨f0, f1, f2, f3, f4, f4l, f4c, f5, f5l, f5c, e, hl⟩ => exact ⟨f0, f1, f2, f3, f4, f4l, f4c, f5, f5l, f5c, e⟩
          | 10, ⟨g, e, hz, hg⟩ => exact ⟨g, e, hg⟩
          | 0, h | 1, h | 2, h | 3, h | 4, h | 5, h | 9, h => exact h
          | (k + 11), _ => omega
        case s4 =>
          intro i x w1 hi hL hU
          obtain rfl : i = 9 := of_decide_eq_true hL
          exact hU
        case s5 =>
          intro i o ac wb K' ho hi hL hA hB hdep hK
          have sv4 : ac.tmps[4]?.getD undef = .pointer (some ⟨w.heap.size, 0, none⟩) := hA.sl (t := 4) (by decide)
          have sv9 : ac.tmps[9]?.getD undef = .string P := hA.sl (t := 9) (by decide)
          have sv2 : ac.tmps[2]?.getD undef = .int .i64 a := hA.sl (t := 2) (by decide)
          have x0 := cells_frame hB x0
          have x1 := cells_frame hB x1
          have x2 := cells_frame hB x2
          have x3 := cells_frame hB x3
          have x4 := cells_frame hB x4
          have x5 := cells_frame hB x5
          have hL : i ≠ 9 := of_decide_eq_false hL
          rcases (by omega : i = 0 ∨ i = 1 ∨ i = 2 ∨ i = 3 ∨ i = 4 ∨ i = 5 ∨ i = 6 ∨ i = 7 ∨ i = 8 ∨ i = 10) with rfl | rfl | rfl | rfl | rfl | rfl | rfl | rfl | rfl | rfl
          · simp at ho
            subst ho
            clear hdep hA
            go_simp
            exact hK _ wb (Below.refl _ _) rfl (fun _ _ _ _ => trivial) (fun e => absurd e (by decide))
          · simp at ho
            subst ho
            clear hdep hA
            go_simp
            exact hK _ wb (Below.refl _ _) rfl (fun _ _ _ _ => trivial) (fun e => absurd e (by decide))
          · simp at ho
            subst ho
            have z1 : ac.tmps[67]?.getD undef = .string P := hdep { on := 1, ground := .data } (by simp) rfl
            clear hdep hA
            go_simp
            rw [if_neg (by (try simp only [ByteArray.size_append]); have := HPZ.out; have := HDZ_a.out; have e1 : (⟨#[61]⟩ : ByteArray).size = 1 := rfl; omega)]
            go_simp
            exact hK _ wb (Below.refl _ _) rfl (fun _ _ _ _ => trivial) (fun e => absurd e (by decide))
          · simp at ho
            subst ho
            clear hdep hA
            go_simp
            exact hK _ wb (Below.refl _ _) rfl (fun _ _ _ _ => trivial) (fun e => absurd e (by decide))
          · simp at ho
            subst ho
            have z3 : ac.tmps[69]?.getD undef = .int .i64 a := hdep { on := 3, ground := .data } (by simp) rfl
            clear hdep hA
            go_simp
            refine (DIG_a.out wb).mono ?_
            rintro e w5 ⟨rfl, hb5⟩
            exact hK _ w5 hb5 rfl (fun _ _ _ _ => trivial) (fun e => absurd e (by decide))
          · simp at ho
            subst ho
            have z2 : ac.tmps[68]?.getD undef = .string (P ++ ⟨#[61]⟩) := hdep { on := 2, ground := .data } (by simp) rfl
            have z4 : ac.tmps[70]?.getD undef = .string Da := hdep { on := 4, ground := .data } (by simp) rfl
            clear hdep hA
            go_simp
            rw [if_neg (by (try simp only [ByteArray.size_append]); have := HPZ.out; have := HDZ_a.out; have e1 : (⟨#[61]⟩ : ByteArray).size = 1 := rfl; omega)]
            go_simp
            exact hK _ wb (Below.refl _ _) rfl (fun _ _ _ _ => trivial) (fun e => absurd e (by decide))
          · simp at ho
            subst ho
            have z0 : ac.tmps[66]?.getD undef = .agg #[.int .i64 c0, .bool c1, .int .i64 c2, .string c3, .slice c4 c4l c4c, .slice c5 c5l c5c] := hdep { on := 0, ground := .data } (by simp) rfl
            have z5 : ac.tmps[71]?.getD undef = .string (P ++ ⟨#[61]⟩ ++ Da) := hdep { on := 5, ground := .data } (by simp) rfl
            clear hdep hA
            go_simp
            refine (SET1.out wb hB).mono ?_
            rintro e w5 ⟨es, rfl, hl, hb5⟩
            obtain ⟨f0, f1, f2, f3, f4, f4l, f4c, f5, f5l, f5c, rfl⟩ := hl.six
            have hsB := hB.size
            refine hK _ w5 hb5 ⟨f0, f1, f2, f3, f4, f4l, f4c, f5, f5l, f5c, rfl, hl.weaken fun b hb => by omega⟩ (fun _ y hy _ g e => ⟨f0, f1, f2, f3, f4, f4l, f4c, f5, f5l, f5c, rfl, hl.weaken fun b hb => ?_⟩) (fun e => absurd e (by decide))
            obtain ⟨g2, hy2, hz2, _⟩ := hy
            rw [e] at hy2
            injection hy2 with hy2
            injection hy2 with hy2
            injection hy2 with hy2
            have := hz2.lt
            omega
          · simp at ho
            subst ho
            obtain ⟨f0, f1, f2, f3, f4, f4l, f4c, f5, f5l, f5c, z7, hl⟩ := hdep { on := 6, ground := .data } (by simp) rfl
            have z7 : ac.tmps[72]?.getD undef = .tuple #[.agg #[.int .i64 f0, .bool f1, .int .i64 f2, .string f3, .slice f4 f4l f4c, .slice f5 f5l f5c], .int .i64 0] := z7
            clear hdep hA
            go_simp
            refine hK _ wb (Below.refl _ _) ⟨f0, f1, f2, f3, f4, f4l, f4c, f5, f5l, f5c, rfl, hl⟩ (fun _ y hy hd g e => ?_) (fun e => absurd e (by decide))
            obtain ⟨h0, h1, h2, h3, h4, h4l, h4c, h5, h5l, h5c, e2, hl2⟩ := hd { on := 6, ground := .data } (by simp) rfl g e
            have e3 := (show ac.tmps[72]?.getD undef = _ from e2).symm.trans z7
            cases e3
            exact ⟨f0, f1, f2, f3, f4, f4l, f4c, f5, f5l, f5c, rfl, hl2⟩
          · simp at ho
            subst ho
            obtain ⟨f0, f1, f2, f3, f4, f4l, f4c, f5, f5l, f5c, z7, hl⟩ := hdep { on := 7, ground := .data } (by simp) rfl
            have z7 : ac.tmps[65]?.getD undef = .tuple #[.agg #[.int .i64 f0, .bool f1, .int .i64 f2, .string f3, .slice f4 f4l f4c, .slice f5 f5l f5c], .int .i64 0] := z7
            clear hdep hA
            go_simp
            refine hK _ wb (Below.refl _ _) ⟨f0, f1, f2, f3, f4, f4l, f4c, f5, f5l, f5c, rfl, hl⟩ (fun _ y hy hd g e => ?_) (fun e => absurd e (by decide))
            obtain ⟨h0, h1, h2, h3, h4, h4l, h4c, h5, h5l, h5c, e2, hl2⟩ := hd { on := 7, ground := .data } (by simp) rfl g e
            have e3 := (show ac.tmps[65]?.getD undef = _ from e2).symm.trans z7
            cases e3
            exact ⟨f0, f1, f2, f3, f4, f4l, f4c, f5, f5l, f5c, rfl, hl2⟩
          · simp at ho
            subst ho
            clear hdep hA
            go_simp
            refine hK _ _ ((Below.refl _ _).alloc (Nat.le_refl _) _) ⟨wb.heap.size, rfl, ZB.new wb, hB.size⟩ (fun e => absurd rfl e) (fun _ j z hj hz => ?_)
            match j, hz with
            | 6, ⟨f0, f1, f2, f3, f4, f4l, f4c, f5, f5l, f5c, e, hl⟩ => exact fun g eg => by injection eg with eg; injection eg with eg; injection eg with eg; exact ⟨f0, f1, f2, f3, f4, f4l, f4c, f5, f5l, f5c, e, (hl.bound.later ((Below.refl _ _).alloc (Nat.le_refl _) _)).weaken fun b hb => ⟨hb.1, by omega⟩⟩
            | 7, ⟨f0, f1, f2, f3, f4, f4l, f4c, f5, f5l, f5c, e, hl⟩ => exact fun g eg => by injection eg with eg; injection eg with eg; injection eg with eg; exact ⟨f0, f1, f2, f3, f4, f4l, f4c, f5, f5l, f5c, e, (hl.bound.later ((Below.refl _ _).alloc (Nat.le_refl _) _)).weaken fun b hb => ⟨hb.1, by omega⟩⟩
            | 8, ⟨f0, f1, f2, f3, f4, f4l, f4c, f5, f5l, f5c, e, hl⟩ => exact fun g eg => by injection eg with eg; injection eg with eg; injection eg with eg; exact ⟨f0, f1, f2, f3, f4, f4l, f4c, f5, f5l, f5c, e, (hl.bound.later ((Below.refl _ _).alloc (Nat.le_refl _) _)).weaken fun b hb => ⟨hb.1, by omega⟩⟩
            | 0, _ | 1, _ | 2, _ | 3, _ | 4, _ | 5, _ | 9, _ | 10, _ => trivial
            | (k + 11), _ => trivial
        case s6 =>
          intro i o ac wb K' ho hi hL hA hdep hK
          obtain rfl : i = 9 := of_decide_eq_true hL
          simp at ho
          subst ho
          obtain ⟨f0, f1, f2, f3, f4, f4l, f4c, f5, f5l, f5c, z7⟩ := hdep { on := 7, ground := .data } (by simp) rfl
          have z7 : ac.tmps[65]?.getD undef = .tuple #[.agg #[.int .i64 f0, .bool f1, .int .i64 f2, .string f3, .slice f4 f4l f4c, .slice f5 f5l f5c], .int .i64 0] := z7
          clear hdep hA
          go_simp
          exact hK _ rfl
        case s7 =>
          intro o ac wb K' ho hA hB hU hNN hK
          simp at ho
          subst ho
          obtain ⟨g, z10, hzb, hg⟩ := hU 10 (by omega) (by decide)
          obtain ⟨f0, f1, f2, f3, f4, f4l, f4c, f5, f5l, f5c, z8, hl⟩ := hNN 8 (by omega) (by decide) g z10
          have z8 : ac.tmps[73]?.getD undef = .agg #[.int .i64 f0, .bool f1, .int .i64 f2, .string f3, .slice f4 f4l f4c, .slice f5 f5l f5c] := z8
          have z10' : ac.tmps[12]?.getD undef = .pointer (some ⟨g, 0, none⟩) := z10
          have zc : ∀ j, wb.cell? ⟨g, j, none⟩ = (#[.int .i64 0, .bool false, .int .i64 0, .string ⟨#[]⟩, .slice none 0 0, .slice none 0 0] : Array Value)[j]? := hzb.cell
          have zf := hzb.frozen
          have hbx : Box6 (setRow wb g 0 [.int .i64 f0, .bool f1, .int .i64 f2, .string f3, .slice f4 f4l f4c, .slice f5 f5l f5c]) g #[.int .i64 f0, .bool f1, .int .i64 f2, .string f3, .slice f4 f4l f4c, .slice f5 f5l f5c] := row_box6 (zb_rows hzb [.int .i64 f0, .bool f1, .int .i64 f2, .string f3, .slice f4 f4l f4c, .slice f5 f5l f5c] rfl)
          have hlt := hzb.lt
          have hlz := Lib.hid hl
          clear hU hNN hA hl
          go_simp
          exact hK _ ⟨g, f0, f1, f2, f3, f4, f4l, f4c, f5, f5l, f5c, z10, hbx, lies_setRow [.int .i64 f0, .bool f1, .int .i64 f2, .string f3, .slice f4 f4l f4c, .slice f5 f5l f5c] hlz.out, hg, by show _ < (setRow wb g 0 [.int .i64 f0, .bool f1, .int .i64 f2, .string f3, .slice f4 f4l f4c, .slice f5 f5l f5c]).heap.size; rw [setRow_size]; exact hlt, setRow_below g hg [.int .i64 f0, .bool f1, .int .i64 f2, .string f3, .slice f4 f4l f4c, .slice f5 f5l f5c] wb 0 hB⟩
        case s8 =>
          intro o ac wb K' ho hA hVV hK
          simp at ho
          subst ho
          have z9 : ac.tmps[74]?.getD undef = .int .i64 0 := hVV 9 (by omega)
          clear hVV hA
          go_simp
          exact hK _ rfl
        case s9 =>
          intro ac wn hA hVV hF
          obtain ⟨g, f0, f1, f2, f3, f4, f4l, f4c, f5, f5l, f5c, z10, hbx, hf, hg, hgl, hbn⟩ := hF
          have z11 := hVV 11 (by omega)
          have hs : slots 12 (fun i => match i with | 0 => 66 | 1 => 67 | 2 => 68 | 3 => 69 | 4 => 70 | 5 => 71 | 6 => 72 | 7 => 65 | 8 => 73 | 9 => 74 | 10 => 12 | 11 => 13 | _ => 0) = [66, 67, 68, 69, 70, 71, 72, 65, 73, 74, 12, 13] := by rfl
          rw [hs] at hA
          have hac := hA.act (fun t ht => by
            have h8 : t = 66 ∨ t = 67 ∨ t = 68 ∨ t = 69 ∨ t = 70 ∨ t = 71 ∨ t = 72 ∨ t = 65 ∨ t = 73 ∨ t = 74 ∨ t = 12 ∨ t = 13 := by simpa using ht
            rcases h8 with rfl | rfl | rfl | rfl | rfl | rfl | rfl | rfl | rfl | rfl | rfl | rfl <;> exact Nat.lt_of_lt_of_le (by decide : _ < 133) (Nat.le_refl 133))
          rw [List.foldl_cons, List.foldl_cons, List.foldl_cons, List.foldl_cons, List.foldl_cons, List.foldl_cons, List.foldl_cons, List.foldl_cons, List.foldl_cons, List.foldl_cons, List.foldl_cons, List.foldl_cons, List.foldl_nil] at hac
          have z10 : sl ac 12 = .pointer (some ⟨g, 0, none⟩) := z10
          have z11 : sl ac 13 = .int .i64 0 := z11
          rw [z10, z11] at hac
          generalize sl ac 66 = x66 at hac
          generalize sl ac 67 = x67 at hac
          generalize sl ac 68 = x68 at hac
          generalize sl ac 69 = x69 at hac
          generalize sl ac 70 = x70 at hac
          generalize sl ac 71 = x71 at hac
          generalize sl ac 72 = x72 at hac
          generalize sl ac 65 = x65 at hac
          generalize sl ac 73 = x73 at hac
          generalize sl ac 74 = x74 at hac
          clear hA hs hVV z10 z11
          subst hac
          simp only [Act.put, List.setIfInBounds_toArray, List.set_cons_succ, List.set_cons_zero]
          have HBX := hbx
          have HLO := hf
          have HBN := Lib.hid hbn
          have HW3 := Lib.hid (bstep HB3.out hbn HB3.out.size)
          have HGL := Lib.hid hgl
          clear x0 x1 x2 x3 x4 x5 hg hgl hbn hbx hf
          obtain ⟨y, hy, hyq⟩ := set_second (b := b) E1.out E2.out E3.out HOZ.out HWK.out hl6
          obtain ⟨z, hz, hzq⟩ := set_third E1.out E2.out E3.out HOZ.out HWK.out hl6 HNE.out
          have SET2 : Hid (∀ w1, Below wn.heap.size wn w1 → Calls Tryz.prog 10 #[.agg #[.int .i64 f0, .bool f1, .int .i64 f2, .string f3, .slice f4 f4l f4c, .slice f5 f5l f5c], .string (P ++ ⟨#[61]⟩ ++ Db)] w1 (SetIn w1 (y, 0))) := fun w1 hb1 => by
            rw [← hy, HDB.out]
            exact set_int HLO.out (by have := HOZ.out; omega) HPATH.out (by have := HPZ.out; omega) b HBB.out w1 hb1 m (CM.out w1 (bstep HW3.out hb1 HW3.out.size)).1 (CM.out w1 (bstep HW3.out hb1 HW3.out.size)).2
          have SET3 : Hid (∀ w1, Below wn.heap.size wn w1 → Calls Tryz.prog 10 #[.agg #[.int .i64 f0, .bool f1, .int .i64 f2, .string f3, .slice f4 f4l f4c, .slice f5 f5l f5c], .string (P ++ ⟨#[61, 110, 117, 108, 108]⟩)] w1 (SetIn w1 (z, 0))) := fun w1 hb1 => by
            rw [← hz]
            exact set_nil HLO.out (by have := HOZ.out; omega) HPATH.out (by have := HPZ.out; omega) w1 hb1 m (CM.out w1 (bstep HW3.out hb1 HW3.out.size)).1 (CM.out w1 (bstep HW3.out hb1 HW3.out.size)).2
          have HYQ := Lib.hid hyq
          have HZQ := Lib.hid hzq
          clear hy hz hyq hzq
          obtain ⟨x0, x1, x2, x3, x4, x5⟩ := HBX.out.six
          go_upto_region 16 with fail
          refine wp_region_specsN wn 11 10 (fun i => match i with | 0 => 83 | 1 => 84 | 2 => 85 | 3 => 86 | 4 => 87 | 5 => 88 | 6 => 89 | 7 => 82 | 8 => 90 | 9 => 91 | 10 => 14 | 11 => 15 | _ => 0) (fun i => decide (i = 9)) (fun i x wx => match i with | 0 => x = .agg #[.int .i64 f0, .bool f1, .int .i64 f2, .string f3, .slice f4 f4l f4c, .slice f5 f5l f5c] | 1 => x = .string P | 2 => x = .string (P ++ ⟨#[61]⟩) | 3 => x = .int .i64 b | 4 => x = .string Db | 5 => x = .string (P ++ ⟨#[61]⟩ ++ Db) | 9 => x = .int .i64 0 | 6 => ∃ (f0 : Int) (f1 : Bool) (f2 : Int) (f3 : ByteArray) (f4 : Option Addr) (f4l f4c : Nat) (f5 : Option Addr) (f5l f5c : Nat), x = .tuple #[.agg #[.int .i64 f0, .bool f1, .int .i64 f2, .string f3, .slice f4 f4l f4c, .slice f5 f5l f5c], .int .i64 0] ∧ Lies wx (fun b => wn.heap.size ≤ b) y #[.int .i64 f0, .bool f1, .int .i64 f2, .string f3, .slice f4 f4l f4c, .slice f5 f5l f5c] | 7 => ∃ (f0 : Int) (f1 : Bool) (f2 : Int) (f3 : ByteArray) (f4 : Option Addr) (f4l f4c : Nat) (f5 : Option Addr) (f5l f5c : Nat), x = .tuple #[.agg #[.int .i64 f0, .bool f1, .int .i64 f2, .string f3, .slice f4 f4l f4c, .slice f5 f5l f5c], .int .i64 0] ∧ Lies wx (fun b => wn.heap.size ≤ b) y #[.int .i64 f0, .bool f1, .int .i64 f2, .string f3, .slice f4 f4l f4c, .slice f5 f5l f5c] | 8 => ∃ (f0 : Int) (f1 : Bool) (f2 : Int) (f3 : ByteArray) (f4 : Option Addr) (f4l f4c : Nat) (f5 : Option Addr) (f5l f5c : Nat), x = .agg #[.int .i64 f0, .bool f1, .int .i64 f2, .string f3, .slice f4 f4l f4c, .slice f5 f5l f5c] ∧ Lies wx (fun b => wn.heap.size ≤ b) y #[.int .i64 f0, .bool f1, .int .i64 f2, .string f3, .slice f4 f4l f4c, .slice f5 f5l f5c] | 10 => ∃ g : Nat, x = .pointer (some ⟨g, 0, none⟩) ∧ ZB wx g ∧ wn.heap.size ≤ g | _ => True) (fun i x yv wx => match i with | 6 => ∀ g, yv = .pointer (some ⟨g, 0, none⟩) → ∃ (f0 : Int) (f1 : Bool) (f2 : Int) (f3 : ByteArray) (f4 : Option Addr) (f4l f4c : Nat) (f5 : Option Addr) (f5l f5c : Nat), x = .tuple #[.agg #[.int .i64 f0, .bool f1, .int .i64 f2, .string f3, .slice f4 f4l f4c, .slice f5 f5l f5c], .int .i64 0] ∧ Lies wx (fun b => wn.heap.size ≤ b ∧ b ≠ g) y #[.int .i64 f0, .bool f1, .int .i64 f2, .string f3, .slice f4 f4l f4c, .slice f5 f5l f5c] | 7 => ∀ g, yv = .pointer (some ⟨g, 0, none⟩) → ∃ (f0 : Int) (f1 : Bool) (f2 : Int) (f3 : ByteArray) (f4 : Option Addr) (f4l f4c : Nat) (f5 : Option Addr) (f5l f5c : Nat), x = .tuple #[.agg #[.int .i64 f0, .bool f1, .int .i64 f2, .string f3, .slice f4 f4l f4c, .slice f5 f5l f5c], .int .i64 0] ∧ Lies wx (fun b => wn.heap.size ≤ b ∧ b ≠ g) y #[.int .i64 f0, .bool f1, .int .i64 f2, .string f3, .slice f4 f4l f4c, .slice f5 f5l f5c] | 8 => ∀ g, yv = .pointer (some ⟨g, 0, none⟩) → ∃ (f0 : Int) (f1 : Bool) (f2 : Int) (f3 : ByteArray) (f4 : Option Addr) (f4l f4c : Nat) (f5 : Option Addr) (f5l f5c : Nat), x = .agg #[.int .i64 f0, .bool f1, .int .i64 f2, .string f3, .slice f4 f4l f4c, .slice f5 f5l f5c] ∧ Lies wx (fun b => wn.heap.size ≤ b ∧ b ≠ g) y #[.int .i64 f0, .bool f1, .int .i64 f2, .string f3, .slice f4 f4l f4c, .slice f5 f5l f5c] | _ => True) (fun i x => match i with | 0 => x = .agg #[.int .i64 f0, .bool f1, .int .i64 f2, .string f3, .slice f4 f4l f4c, .slice f5 f5l f5c] | 1 => x = .string P | 2 => x = .string (P ++ ⟨#[61]⟩) | 3 => x = .int .i64 b | 4 => x = .string Db | 5 => x = .string (P ++ ⟨#[61]⟩ ++ Db) | 9 => x = .int .i64 0 | 6 => ∃ (f0 : Int) (f1 : Bool) (f2 : Int) (f3 : ByteArray) (f4 : Option Addr) (f4l f4c : Nat) (f5 : Option Addr) (f5l f5c : Nat), x = .tuple #[.agg #[.int .i64 f0, .bool f1, .int .i64 f2, .string f3, .slice f4 f4l f4c, .slice f5 f5l f5c], .int .i64 0] | 7 => ∃ (f0 : Int) (f1 : Bool) (f2 : Int) (f3 : ByteArray) (f4 : Option Addr) (f4l f4c : Nat) (f5 : Option Addr) (f5l f5c : Nat), x = .tuple #[.agg #[.int .i64 f0, .bool f1, .int .i64 f2, .string f3, .slice f4 f4l f4c, .slice f5 f5l f5c], .int .i64 0] | 8 => ∃ (f0 : Int) (f1 : Bool) (f2 : Int) (f3 : ByteArray) (f4 : Option Addr) (f4l f4c : Nat) (f5 : Option Addr) (f5l f5c : Nat), x = .agg #[.int .i64 f0, .bool f1, .int .i64 f2, .string f3, .slice f4 f4l f4c, .slice f5 f5l f5c] | 10 => ∃ g : Nat, x = .pointer (some ⟨g, 0, none⟩) ∧ wn.heap.size ≤ g | 11 => x = .int .i64 0 | _ => True) (fun x wx => ∃ (g : Nat) (f0 : Int) (f1 : Bool) (f2 : Int) (f3 : ByteArray) (f4 : Option Addr) (f4l f4c : Nat) (f5 : Option Addr) (f5l f5c : Nat), x = .pointer (some ⟨g, 0, none⟩) ∧ Hid (Box6 wx g #[.int .i64 f0, .bool f1, .int .i64 f2, .string f3, .slice f4 f4l f4c, .slice f5 f5l f5c]) ∧ Hid (Lies wx (fun b => wn.heap.size ≤ b) y #[.int .i64 f0, .bool f1, .int .i64 f2, .string f3, .slice f4 f4l f4c, .slice f5 f5l f5c]) ∧ wn.heap.size ≤ g ∧ g < wx.heap.size ∧ Below wn.heap.size wn wx) (by kernel_rfl) (by kernel_rfl) ?s1 (by decide) (by decide) (Below.refl _ _) ?s2 ?n1 ?n2 (fun _ _ _ => trivial) ?s3 ?s4 ?s5 ?s6 ?s7 ?s8 ?s9
          case n1 =>
            intro i x y w1 w2 hi hb hN
            match i, hN with
            | 6, h => exact fun g e => by obtain ⟨f0, f1, f2, f3, f4, f4l, f4c, f5, f5l, f5c, e2, hl⟩ := h g e; exact ⟨f0, f1, f2, f3, f4, f4l, f4c, f5, f5l, f5c, e2, hl.later hb⟩
            | 7, h => exact fun g e => by obtain ⟨f0, f1, f2, f3, f4, f4l, f4c, f5, f5l, f5c, e2, hl⟩ := h g e; exact ⟨f0, f1, f2, f3, f4, f4l, f4c, f5, f5l, f5c, e2, hl.later hb⟩
            | 8, h => exact fun g e => by obtain ⟨f0, f1, f2, f3, f4, f4l, f4c, f5, f5l, f5c, e2, hl⟩ := h g e; exact ⟨f0, f1, f2, f3, f4, f4l, f4c, f5, f5l, f5c, e2, hl.later hb⟩
            | 0, _ | 1, _ | 2, _ | 3, _ | 4, _ | 5, _ | 9, _ | 10, _ => trivial
            | (k + 11), _ => trivial
          case n2 =>
            intro i x y w1 hL
            obtain rfl : i = 9 := of_decide_eq_true hL
            trivial
          case s1 => intro i hi; rcases (by omega : i = 0 ∨ i = 1 ∨ i = 2 ∨ i = 3 ∨ i = 4 ∨ i = 5 ∨ i = 6 ∨ i = 7 ∨ i = 8 ∨ i = 9 ∨ i = 10 ∨ i = 11) with rfl | rfl | rfl | rfl | rfl | rfl | rfl | rfl | rfl | rfl | rfl | rfl <;> exact Nat.lt_of_lt_of_le (by decide : _ < 133) (Nat.le_refl 133)
          case s2 =>
            intro i x w1 w2 hb hU
            match i, hU with
            | 6, ⟨f0, f1, f2, f3, f4, f4l, f4c, f5, f5l, f5c, e, hl⟩ => exact ⟨f0, f1, f2, f3, f4, f4l, f4c, f5, f5l, f5c, e, hl.later hb⟩
            | 7, ⟨f0, f1, f2, f3, f4, f4l, f4c, f5, f5l, f5c, e, hl⟩ => exact ⟨f0, f1, f2, f3, f4, f4l, f4c, f5, f5l, f5c, e, hl.later hb⟩
            | 8, ⟨f0, f1, f2, f3, f4, f4l, f4c, f5, f5l, f5c, e, hl⟩ => exact ⟨f0, f1, f2, f3, f4, f4l, f4c, f5, f5l, f5c, e, hl.later hb⟩
            | 10, ⟨g, e, hz, hg⟩ => exact ⟨g, e, hz.later hb, hg⟩
            | 0, h | 1, h | 2, h | 3, h | 4, h | 5, h | 9, h => exact h
            | (k + 11), _ => trivial
          case s3 =>
            intro i x w1 hi hU
            match i, hU with
            | 6, ⟨f0, f1, f2, f3, f4, f4l, f4c, f5, f5l, f5c, e, hl⟩ => exact ⟨f0, f1, f2, f3, f4, f4l, f4c, f5, f5l, f5c, e⟩
            | 7, ⟨f0, f1, f2, f3, f4, f4l, f4c, f5, f5l, f5c, e, hl⟩ => exact ⟨f0, f1, f2, f3, f4, f4l, f4c, f5, f5l, f5c, e⟩
            | 8, ⟨f0, f1, f2, f3, f4, f4l, f4c, f5, f5l, f5c, e, hl⟩ => exact ⟨f0, f1, f2, f3, f4, f4l, f4c, f5, f5l, f5c, e⟩
            | 10, ⟨g, e, hz, hg⟩ => exact ⟨g, e, hg⟩
            | 0, h | 1, h | 2, h | 3, h | 4, h | 5, h | 9, h => exact h
            | (k + 11), _ => omega
          case s4 =>
            intro i x w1 hi hL hU
            obtain rfl : i = 9 := of_decide_eq_true hL
            exact hU
          case s5 =>
            intro i o ac wb K' ho hi hL hA hB hdep hK
            have sv12 : ac.tmps[12]?.getD undef = .pointer (some ⟨g, 0, none⟩) := hA.sl (t := 12) (by decide)
            have sv9 : ac.tmps[9]?.getD undef = .string P := hA.sl (t := 9) (by decide)
            have sv3 : ac.tmps[3]?.getD undef = .int .i64 b := hA.sl (t := 3) (by decide)
            have x0 := cells_frame hB x0
            have x1 := cells_frame hB x1
            have x2 := cells_frame hB x2
            have x3 := cells_frame hB x3
            have x4 := cells_frame hB x4
            have x5 := cells_frame hB x5
            have hL : i ≠ 9 := of_decide_eq_false hL
            rcases (by omega : i = 0 ∨ i = 1 ∨ i = 2 ∨ i = 3 ∨ i = 4 ∨ i = 5 ∨ i = 6 ∨ i = 7 ∨ i = 8 ∨ i = 10) with rfl | rfl | rfl | rfl | rfl | rfl | rfl | rfl | rfl | rfl
            · simp at ho
              subst ho
              clear hdep hA
              go_simp
              exact hK _ wb (Below.refl _ _) rfl (fun _ _ _ _ => trivial) (fun e => absurd e (by decide))
            · simp at ho
              subst ho
              clear hdep hA
              go_simp
              exact hK _ wb (Below.refl _ _) rfl (fun _ _ _ _ => trivial) (fun e => absurd e (by decide))
            · simp at ho
              subst ho
              have z1 : ac.tmps[84]?.getD undef = .string P := hdep { on := 1, ground := .data } (by simp) rfl
              clear hdep hA
              go_simp
              rw [if_neg (by (try simp only [ByteArray.size_append]); have := HPZ.out; have := HDZ_b.out; have e1 : (⟨#[61]⟩ : ByteArray).size = 1 := rfl; omega)]
              go_simp
              exact hK _ wb (Below.refl _ _) rfl (fun _ _ _ _ => trivial) (fun e => absurd e (by decide))
            · simp at ho
              subst ho
              clear hdep hA
              go_simp
              exact hK _ wb (Below.refl _ _) rfl (fun _ _ _ _ => trivial) (fun e => absurd e (by decide))
            · simp at ho
              subst ho
              have z3 : ac.tmps[86]?.getD undef = .int .i64 b := hdep { on := 3, ground := .data } (by simp) rfl
              clear hdep hA
              go_simp
              refine (DIG_b.out wb).mono ?_
              rintro e w5 ⟨rfl, hb5⟩
              exact hK _ w5 hb5 rfl (fun _ _ _ _ => trivial) (fun e => absurd e (by decide))
            · simp at ho
              subst ho
              have z2 : ac.tmps[85]?.getD undef = .string (P ++ ⟨#[61]⟩) := hdep { on := 2, ground := .data } (by simp) rfl
              have z4 : ac.tmps[87]?.getD undef = .string Db := hdep { on := 4, ground := .data } (by simp) rfl
              clear hdep hA
              go_simp
              rw [if_neg (by (try simp only [ByteArray.size_append]); have := HPZ.out; have := HDZ_b.out; have e1 : (⟨#[61]⟩ : ByteArray).size = 1 := rfl; omega)]
              go_simp
              exact hK _ wb (Below.refl _ _) rfl (fun _ _ _ _ => trivial) (fun e => absurd e (by decide))
            · simp at ho
              subst ho
              have z0 : ac.tmps[83]?.getD undef = .agg #[.int .i64 f0, .bool f1, .int .i64 f2, .string f3, .slice f4 f4l f4c, .slice f5 f5l f5c] := hdep { on := 0, ground := .data } (by simp) rfl
              have z5 : ac.tmps[88]?.getD undef = .string (P ++ ⟨#[61]⟩ ++ Db) := hdep { on := 5, ground := .data } (by simp) rfl
              clear hdep hA
              go_simp
              refine (SET2.out wb hB).mono ?_
              rintro e w5 ⟨es, rfl, hl, hb5⟩
              obtain ⟨f0, f1, f2, f3, f4, f4l, f4c, f5, f5l, f5c, rfl⟩ := hl.six
              have hsB := hB.size
              refine hK _ w5 hb5 ⟨f0, f1, f2, f3, f4, f4l, f4c, f5, f5l, f5c, rfl, hl.weaken fun b hb => by omega⟩ (fun _ y hy _ g e => ⟨f0, f1, f2, f3, f4, f4l, f4c, f5, f5l, f5c, rfl, hl.weaken fun b hb => ?_⟩) (fun e => absurd e (by decide))
              obtain ⟨g2, hy2, hz2, _⟩ := hy
              rw [e] at hy2
              injection hy2 with hy2
              injection hy2 with hy2
              injection hy2 with hy2
              have := hz2.lt
              omega
            · simp at ho
              subst ho
              obtain ⟨f0, f1, f2, f3, f4, f4l, f4c, f5, f5l, f5c, z7, hl⟩ := hdep { on := 6, ground := .data } (by simp) rfl
              have z7 : ac.tmps[89]?.getD undef = .tuple #[.agg #[.int .i64 f0, .bool f1, .int .i64 f2, .string f3, .slice f4 f4l f4c, .slice f5 f5l f5c], .int .i64 0] := z7
              clear hdep hA
              go_simp
              refine hK _ wb (Below.refl _ _) ⟨f0, f1, f2, f3, f4, f4l, f4c, f5, f5l, f5c, rfl, hl⟩ (fun _ y hy hd g e => ?_) (fun e => absurd e (by decide))
              obtain ⟨h0, h1, h2, h3, h4, h4l, h4c, h5, h5l, h5c, e2, hl2⟩ := hd { on := 6, ground := .data } (by simp) rfl g e
              have e3 := (show ac.tmps[89]?.getD undef = _ from e2).symm.trans z7
              cases e3
              exact ⟨f0, f1, f2, f3, f4, f4l, f4c, f5, f5l, f5c, rfl, hl2⟩
            · simp at ho
              subst ho
              obtain ⟨f0, f1, f2, f3, f4, f4l, f4c, f5, f5l, f5c, z7, hl⟩ := hdep { on := 7, ground := .data } (by simp) rfl
              have z7 : ac.tmps[82]?.getD undef = .tuple #[.agg #[.int .i64 f0, .bool f1, .int .i64 f2, .string f3, .slice f4 f4l f4c, .slice f5 f5l f5c], .int .i64 0] := z7
              clear hdep hA
              go_simp
              refine hK _ wb (Below.refl _ _) ⟨f0, f1, f2, f3, f4, f4l, f4c, f5, f5l, f5c, rfl, hl⟩ (fun _ y hy hd g e => ?_) (fun e => absurd e (by decide))
              obtain ⟨h0, h1, h2, h3, h4, h4l, h4c, h5, h5l, h5c, e2, hl2⟩ := hd { on := 7, ground := .data } (by simp) rfl g e
              have e3 := (show ac.tmps[82]?.getD undef = _ from e2).symm.trans z7
              cases e3
              exact ⟨f0, f1, f2, f3, f4, f4l, f4c, f5, f5l, f5c, rfl, hl2⟩
            · simp at ho
              subst ho
              clear hdep hA
              go_simp
              refine hK _ _ ((Below.refl _ _).alloc (Nat.le_refl _) _) ⟨wb.heap.size, rfl, ZB.new wb, hB.size⟩ (fun e => absurd rfl e) (fun _ j z hj hz => ?_)
              match j, hz with
              | 6, ⟨f0, f1, f2, f3, f4, f4l, f4c, f5, f5l, f5c, e, hl⟩ => exact fun g eg => by injection eg with eg; injection eg with eg; injection eg with eg; exact ⟨f0, f1, f2, f3, f4, f4l, f4c, f5, f5l, f5c, e, (hl.bound.later ((Below.refl _ _).alloc (Nat.le_refl _) _)).weaken fun b hb => ⟨hb.1, by omega⟩⟩
              | 7, ⟨f0, f1, f2, f3, f4, f4l, f4c, f5, f5l, f5c, e, hl⟩ => exact fun g eg => by injection eg with eg; injection eg with eg; injection eg with eg; exact ⟨f0, f1, f2, f3, f4, f4l, f4c, f5, f5l, f5c, e, (hl.bound.later ((Below.refl _ _).alloc (Nat.le_refl _) _)).weaken fun b hb => ⟨hb.1, by omega⟩⟩
              | 8, ⟨f0, f1, f2, f3, f4, f4l, f4c, f5, f5l, f5c, e, hl⟩ => exact fun g eg => by injection eg with eg; injection eg with eg; injection eg with eg; exact ⟨f0, f1, f2, f3, f4, f4l, f4c, f5, f5l, f5c, e, (hl.bound.later ((Below.refl _ _).alloc (Nat.le_refl _) _)).weaken fun b hb => ⟨hb.1, by omega⟩⟩
              | 0, _ | 1, _ | 2, _ | 3, _ | 4, _ | 5, _ | 9, _ | 10, _ => trivial
              | (k + 11), _ => trivial
          case s6 =>
            intro i o ac wb K' ho hi hL hA hdep hK
            obtain rfl : i = 9 := of_decide_eq_true hL
            simp at ho
            subst ho
            obtain ⟨f0, f1, f2, f3, f4, f4l, f4c, f5, f5l, f5c, z7⟩ := hdep { on := 7, ground := .data } (by simp) rfl
            have z7 : ac.tmps[82]?.getD undef = .tuple #[.agg #[.int .i64 f0, .bool f1, .int .i64 f2, .string f3, .slice f4 f4l f4c, .slice f5 f5l f5c], .int .i64 0] := z7
            clear hdep hA
            go_simp
            exact hK _ rfl
          case s7 =>
            intro o ac wb K' ho hA hB hU hNN hK
            simp at ho
            subst ho
            obtain ⟨g, z10, hzb, hg⟩ := hU 10 (by omega) (by decide)
            obtain ⟨f0, f1, f2, f3, f4, f4l, f4c, f5, f5l, f5c, z8, hl⟩ := hNN 8 (by omega) (by decide) g z10
            have z8 : ac.tmps[90]?.getD undef = .agg #[.int .i64 f0, .bool f1, .int .i64 f2, .string f3, .slice f4 f4l f4c, .slice f5 f5l f5c] := z8
            have z10' : ac.tmps[14]?.getD undef = .pointer (some ⟨g, 0, none⟩) := z10
            have zc : ∀ j, wb.cell? ⟨g, j, none⟩ = (#[.int .i64 0, .bool false, .int .i64 0, .string ⟨#[]⟩, .slice none 0 0, .slice none 0 0] : Array Value)[j]? := hzb.cell
            have zf := hzb.frozen
            have hbx : Box6 (setRow wb g 0 [.int .i64 f0, .bool f1, .int .i64 f2, .string f3, .slice f4 f4l f4c, .slice f5 f5l f5c]) g #[.int .i64 f0, .bool f1, .int .i64 f2, .string f3, .slice f4 f4l f4c, .slice f5 f5l f5c] := row_box6 (zb_rows hzb [.int .i64 f0, .bool f1, .int .i64 f2, .string f3, .slice f4 f4l f4c, .slice f5 f5l f5c] rfl)
            have hlt := hzb.lt
            have hlz := Lib.hid hl
            clear hU hNN hA hl
            go_simp
            exact hK _ ⟨g, f0, f1, f2, f3, f4, f4l, f4c, f5, f5l, f5c, z10, hbx, lies_setRow [.int .i64 f0, .bool f1, .int .i64 f2, .string f3, .slice f4 f4l f4c, .slice f5 f5l f5c] hlz.out, hg, by show _ < (setRow wb g 0 [.int .i64 f0, .bool f1, .int .i64 f2, .string f3, .slice f4 f4l f4c, .slice f5 f5l f5c]).heap.size; rw [setRow_size]; exact hlt, setRow_below g hg [.int .i64 f0, .bool f1, .int .i64 f2, .string f3, .slice f4 f4l f4c, .slice f5 f5l f5c] wb 0 hB⟩
          case s8 =>
            intro o ac wb K' ho hA hVV hK
            simp at ho
            subst ho
            have z9 : ac.tmps[91]?.getD undef = .int .i64 0 := hVV 9 (by omega)
            clear hVV hA
            go_simp
            exact hK _ rfl
          case s9 =>
            intro ac wn hA hVV hF
            obtain ⟨g, f0, f1, f2, f3, f4, f4l, f4c, f5, f5l, f5c, z10, hbx, hf, hg, hgl, hbn⟩ := hF
            have z11 := hVV 11 (by omega)
            have hs : slots 12 (fun i => match i with | 0 => 83 | 1 => 84 | 2 => 85 | 3 => 86 | 4 => 87 | 5 => 88 | 6 => 89 | 7 => 82 | 8 => 90 | 9 => 91 | 10 => 14 | 11 => 15 | _ => 0) = [83, 84, 85, 86, 87, 88, 89, 82, 90, 91, 14, 15] := by rfl
            rw [hs] at hA
            have hac := hA.act (fun t ht => by
              have h8 : t = 83 ∨ t = 84 ∨ t = 85 ∨ t = 86 ∨ t = 87 ∨ t = 88 ∨ t = 89 ∨ t = 82 ∨ t = 90 ∨ t = 91 ∨ t = 14 ∨ t = 15 := by simpa using ht
              rcases h8 with rfl | rfl | rfl | rfl | rfl | rfl | rfl | rfl | rfl | rfl | rfl | rfl <;> exact Nat.lt_of_lt_of_le (by decide : _ < 133) (Nat.le_refl 133))
            rw [List.foldl_cons, List.foldl_cons, List.foldl_cons, List.foldl_cons, List.foldl_cons, List.foldl_cons, List.foldl_cons, List.foldl_cons, List.foldl_cons, List.foldl_cons, List.foldl_cons, List.foldl_cons, List.foldl_nil] at hac
            have z10 : sl ac 14 = .pointer (some ⟨g, 0, none⟩) := z10
            have z11 : sl ac 15 = .int .i64 0 := z11
            rw [z10, z11] at hac
            generalize sl ac 83 = x83 at hac
            generalize sl ac 84 = x84 at hac
            generalize sl ac 85 = x85 at hac
            generalize sl ac 86 = x86 at hac
            generalize sl ac 87 = x87 at hac
            generalize sl ac 88 = x88 at hac
            generalize sl ac 89 = x89 at hac
            generalize sl ac 82 = x82 at hac
            generalize sl ac 90 = x90 at hac
            generalize sl ac 91 = x91 at hac
            clear hA hs hVV z10 z11
            subst hac
            simp only [Act.put, List.setIfInBounds_toArray, List.set_cons_succ, List.set_cons_zero]
            have HBY := hbx
            have HLY := hf
            have HBN2 := Lib.hid hbn
            have HW4 := Lib.hid (bstep HW3.out hbn HW3.out.size)
            have HGL2 := Lib.hid hgl
            clear x0 x1 x2 x3 x4 x5 hg hgl hbn hbx hf
            obtain ⟨x0, x1, x2, x3, x4, x5⟩ := (HBX.out.later HBN2.out HGL.out).six
            have hnz : (P ++ ⟨#[61, 110, 117, 108, 108]⟩).size ≤ 2000 := by rw [ByteArray.size_append]; have := HPZ.out; have e : (⟨#[61, 110, 117, 108, 108]⟩ : ByteArray).size = 5 := rfl; omega
            have hpz := HPZ.out
            go_upto_region 18 with (go_at_call 10; refine (SET3.out _ HBN2.out).mono ?_; rintro e w5 ⟨es, rfl, hl5, hb5⟩; obtain ⟨d0, d1, d2, d3, d4, d4l, d4c, d5, d5l, d5c, rfl⟩ := hl5.six; have HL5 := Lib.hid hl5; have HB5 := Lib.hid hb5; clear hl5 hb5)
            have b6 := Box6.new w5 #[.int .i64 d0, .bool d1, .int .i64 d2, .string d3, .slice d4 d4l d4c, .slice d5 d5l d5c] 25
            have hb6 := HB5.out.alloc HB5.out.size (.cells #[.int .i64 d0, .bool d1, .int .i64 d2, .string d3, .slice d4 d4l d4c, .slice d5 d5l d5c] 25)
            have hl6' := HL5.out.later ((Below.refl w5.heap.size w5).alloc (Nat.le_refl _) (.cells #[.int .i64 d0, .bool d1, .int .i64 d2, .string d3, .slice d4 d4l d4c, .slice d5 d5l d5c] 25))
            have hs6 : w5.heap.size < (w5.alloc (.cells #[.int .i64 d0, .bool d1, .int .i64 d2, .string d3, .slice d4 d4l d4c, .slice d5 d5l d5c] 25)).heap.size := by simp
            generalize w5.alloc (.cells #[.int .i64 d0, .bool d1, .int .i64 d2, .string d3, .slice d4 d4l d4c, .slice d5 d5l d5c] 25) = w6 at b6 hb6 hl6' hs6 ⊢
            have BZ6 := Lib.hid b6
            have HB6 := Lib.hid hb6
            have HL6 := Lib.hid hl6'
            have HS6 := Lib.hid hs6
            have HW6 := Lib.hid (bstep HW4.out hb6 HW4.out.size)
            have HY6 := Lib.hid (HLY.out.later hb6)
            clear x0 x1 x2 x3 x4 x5
            obtain ⟨x0, x1, x2, x3, x4, x5⟩ := (HBY.out.later hb6 HGL2.out).six
            clear b6 hb6 hl6' hs6
            have GY := r2Get_any HY6.out (HS.out.later HW6.out) w6 (Below.refl _ _)
            rw [HYQ.out] at GY
            have HGY := Lib.hid GY
            clear GY
            go_upto_region 19 with (go_at_call 22; refine HGY.out.mono ?_; rintro e w7 ⟨es, rfl, hl7, hb7⟩; obtain ⟨la, lc, ma, mc, cm, rfl, -⟩ := lies_head (show Lies w7 _ (.mk 2 false b ⟨#[]⟩ [] []) es from hl7); have HB7 := Lib.hid hb7; clear hl7 hb7)
            have b8 := Box6.new w7 #[.int .i64 2, .bool false, .int .i64 b, .string ⟨#[]⟩, .slice la 0 lc, .slice ma 0 mc] 25
            have hb8 := HB7.out.alloc HB7.out.size (.cells #[.int .i64 2, .bool false, .int .i64 b, .string ⟨#[]⟩, .slice la 0 lc, .slice ma 0 mc] 25)
            have hs8 : w7.heap.size < (w7.alloc (.cells #[.int .i64 2, .bool false, .int .i64 b, .string ⟨#[]⟩, .slice la 0 lc, .slice ma 0 mc] 25)).heap.size := by simp
            generalize w7.alloc (.cells #[.int .i64 2, .bool false, .int .i64 b, .string ⟨#[]⟩, .slice la 0 lc, .slice ma 0 mc] 25) = w8 at b8 hb8 hs8 ⊢
            have BN8 := Lib.hid b8
            have HB8 := Lib.hid hb8
            have HS8 := Lib.hid hs8
            have HW8 := Lib.hid (bstep HW6.out hb8 HW6.out.size)
            have HZ8 := Lib.hid (HL6.out.later hb8)
            clear x0 x1 x2 x3 x4 x5
            obtain ⟨x0, x1, x2, x3, x4, x5⟩ := (BZ6.out.later hb8 HS6.out).six
            clear b8 hb8 hs8
            have GZ := r2Get_any HZ8.out (HS.out.later HW8.out) w8 (Below.refl _ _)
            rw [HZQ.out] at GZ
            have HGZ := Lib.hid GZ
            clear GZ
            go_upto_region 20 with (go_at_call 22; refine HGZ.out.mono ?_; rintro e w9 ⟨es, rfl, hl9, hb9⟩; obtain ⟨e0, e1, e2, e3, e4, e4l, e4c, e5, e5l, e5c, rfl⟩ := hl9.six; have HB9 := Lib.hid hb9; clear hl9 hb9)
            have hb10 := HB9.out.alloc HB9.out.size (.cells #[.int .i64 e0, .bool e1, .int .i64 e2, .string e3, .slice e4 e4l e4c, .slice e5 e5l e5c] 25)
            generalize w9.alloc (.cells #[.int .i64 e0, .bool e1, .int .i64 e2, .string e3, .slice e4 e4l e4c, .slice e5 e5l e5c] 25) = w10 at hb10 ⊢
            have HB10 := Lib.hid hb10
            have HW10 := Lib.hid (bstep HW8.out hb10 HW8.out.size)
            clear x0 x1 x2 x3 x4 x5 hb10
            go_wp2_with (go_at_call 8; refine (AW.out _ HW10.out).mono ?_; rintro e w11 ⟨rfl, hb11⟩; have HB11 := Lib.hid hb11; obtain ⟨x0, x1, x2, x3, x4, x5⟩ := (BN8.out.later (bstep HB10.out hb11 HB10.out.size) HS8.out).six; clear hb11)
            go_ret
            exact ⟨rfl, bstep HW10.out HB11.out HW10.out.size⟩


end Go.Proofs.YtlniokpekcoodaaGreatDoor
