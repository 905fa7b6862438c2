/-
  ScalarBares: the law's contract.
-/
import Derived.Test.YtfadijofnaepnaaDoorCPrint
set_option linter.unusedVariables false
set_option linter.unusedSimpArgs false
namespace Go.Proofs.YtfadijofnaepnaaDoor
open Go.RowKit

theorem bare_parts {c : UInt8} {l : List UInt8} (h : bareL (c :: l) = true) : letterB c = true ∧ wordsB (c :: l) = false ∧ (c :: l).all bareB = true := by
  unfold bareL at h
  rw [Bool.and_eq_true, Bool.and_eq_true, Bool.not_eq_true'] at h
  exact ⟨h.1.1, h.1.2, h.2⟩
theorem letter_not {c : UInt8} (h : letterB c = true) : digitB c = false ∧ c ≠ 45 ∧ c ≠ 126 ∧ c ≠ 34 ∧ c ≠ 39 := by
  have : ∀ n : Fin 256, letterB (UInt8.ofNat n.val) = true → digitB (UInt8.ofNat n.val) = false ∧ UInt8.ofNat n.val ≠ 45 ∧ UInt8.ofNat n.val ≠ 126 ∧ UInt8.ofNat n.val ≠ 34 ∧ UInt8.ofNat n.val ≠ 39 := by decide +kernel
  have hc := this ⟨c.toNat, c.toNat_lt⟩
  have e : UInt8.ofNat c.toNat = c := by simp
  simp only [e] at hc
  exact hc h
theorem bare_named {l : List UInt8} (h : bareL l = true) : namedB l = false := by
  cases l with
  | nil => cases h
  | cons c l =>
    obtain ⟨h1, h2, _⟩ := bare_parts h
    unfold wordsB at h2
    simp only [Bool.or_eq_false_iff] at h2
    have h126 : decide (c :: l = [126]) = false := decide_eq_false (fun e => (letter_not h1).2.2.1 (by injection e))
    unfold namedB
    rw [h126, h2.1.1, h2.1.2, h2.2]
    rfl
theorem bare_number {l : List UInt8} (h : bareL l = true) : numberL l = false := by
  cases l with
  | nil => cases h
  | cons c l =>
    obtain ⟨h1, h2, _⟩ := bare_parts h
    have hp : Lib.trimPrefix (c :: l) [45] = c :: l := by
      unfold Lib.trimPrefix Lib.hasPrefix
      have : List.isPrefixOf [45] (c :: l) = false := by
        simp only [List.isPrefixOf]
        rw [show ((45 : UInt8) == c) = false from beq_eq_false_iff_ne.2 (Ne.symm (letter_not h1).2.1)]
        rfl
      rw [this]
      rfl
    unfold numberL
    rw [hp, List.all_cons, (letter_not h1).1]
    simp
theorem bare_snoc {l : List UInt8} {b : UInt8} (h : bareL l = true) (hb : bareB b = true) (h1 : b ≠ 108) (h2 : b ≠ 101) : bareL (l ++ [b]) = true := by
  cases l with
  | nil => cases h
  | cons c l =>
    obtain ⟨a1, a2, a3⟩ := bare_parts h
    have hl : ∀ (x : List UInt8) (y : UInt8), b ≠ y → decide (c :: (l ++ [b]) = x ++ [y]) = false := fun x y hy => decide_eq_false (fun e => hy (by
      have e2 : (c :: l) ++ [b] = x ++ [y] := e
      have := List.append_inj_right' e2 rfl
      injection this))
    show (letterB c && !(decide (c :: (l ++ [b]) = [110, 117, 108, 108]) || decide (c :: (l ++ [b]) = [116, 114, 117, 101]) || decide (c :: (l ++ [b]) = [102, 97, 108, 115, 101])) && (c :: (l ++ [b])).all bareB) = true
    have e1 := hl [110, 117, 108] 108 h1
    have e2 := hl [116, 114, 117] 101 h2
    have e3 := hl [102, 97, 108, 115] 101 h2
    have e1' : decide (c :: (l ++ [b]) = [110, 117, 108, 108]) = false := e1
    have e2' : decide (c :: (l ++ [b]) = [116, 114, 117, 101]) = false := e2
    have e3' : decide (c :: (l ++ [b]) = [102, 97, 108, 115, 101]) = false := e3
    rw [a1, e1', e2', e3']
    have e4 : (c :: (l ++ [b])).all bareB = true := by
      rw [show c :: (l ++ [b]) = (c :: l) ++ [b] from rfl, List.all_append, a3]
      simp [hb]
    rw [e4]
    rfl
theorem word_bare {s : ByteArray} (h : bareL s.data.toList = true) : wordB s = s := by rw [wordB, if_pos h]

theorem letter_no {c : UInt8} (h : c.toNat < 65 ∨ (90 < c.toNat ∧ c.toNat < 97) ∨ 122 < c.toNat) : letterB c = false := by
  unfold letterB
  simp only [Bool.or_eq_false_iff, Bool.and_eq_false_iff, decide_eq_false_iff_not]
  omega

set_option maxRecDepth 100000 in
set_option maxHeartbeats 4000000 in
theorem scalarBares_any (s : ByteArray) (c : UInt8) (hs47 : s.size ≤ 140737488355328) (w : World) :
    Calls Tryd.prog 7 #[.string s, .int .u8 c.toNat] w fun e w' => e = .returned (.bool true) ∧ Below w.heap.size w w' := by
  have hc := c.toNat_lt
  by_cases hs : s.size ≤ 300
  · have hconv : ((convert 45 9 (.slice (some ⟨w.heap.size, 0, none⟩) 1 1)).run Tryd.prog (w.alloc (.cells #[.int .u8 c.toNat] 5))) = .ok (.string ⟨[c].toArray⟩) (w.alloc (.cells #[.int .u8 c.toNat] 5)) :=
      run_convert_bytes_back (P := Tryd.prog) _ 45 9 5 ⟨w.heap.size, 0, none⟩ 1 [c] Tryd.underlying45 Tryd.underlying5 Tryd.underlying9 (fun j hj => by
        have : j = 0 := by simpa using hj
        subst this
        exact byte_lit w (.int .u8 c.toNat) 5 _ rfl 0 _ rfl)
    have hcl : (c :: s.data.toList) = ((⟨#[c]⟩ : ByteArray) ++ s).data.toList := by simp [ByteArray.data_append]
    have z1 : (⟨#[c]⟩ : ByteArray).size = 1 := rfl
    have z2 : (⟨#[49]⟩ : ByteArray).size = 1 := rfl
    have z3 : (⟨#[95]⟩ : ByteArray).size = 1 := rfl
    have hz1 : ((⟨#[c]⟩ : ByteArray) ++ s).size ≤ 301 := by rw [ByteArray.size_append]; omega
    have hz2 : (s ++ (⟨#[49]⟩ : ByteArray)).size ≤ 301 := by rw [ByteArray.size_append]; omega
    have hz3 : (s ++ (⟨#[95]⟩ : ByteArray)).size ≤ 301 := by rw [ByteArray.size_append]; omega
    have HC := Lib.hid hcl
    clear hcl
    have HBW : Hid (Below w.heap.size w (w.alloc (.cells #[.int .u8 c.toNat] 5))) := (Below.refl _ _).alloc (Nat.le_refl _) _
    have HT : Hid (letterB c = false → bareL ((⟨#[c]⟩ : ByteArray) ++ s).data.toList = false) := fun hl => by
      rw [← HC.out, bareL, hl]
      rfl
    cases hb : bareL s.data.toList with
    | false =>
      have HB := Lib.hid hb
      clear hb
      rcases (by omega : (65 ≤ c.toNat ∧ c.toNat ≤ 90) ∨ (97 ≤ c.toNat ∧ c.toNat ≤ 122) ∨ c.toNat < 65 ∨ (90 < c.toNat ∧ c.toNat < 97) ∨ 122 < c.toNat) with ⟨a1, a2⟩ | ⟨a1, a2⟩ | a1 | ⟨a1, a2⟩ | a1
      · go_enter Tryd.func7, Tryd.ntmps7
        go_wp2_with (first
          | ((with_reducible refine (cBare_any s (by omega) _).mono ?_); rintro e w1 ⟨he, hw1⟩; rw [HB.out] at he; subst he hw1)
          | (go_at_call 9; refine (law4awake_any _).mono ?_; rintro e w9 ⟨rfl, hb⟩))
        go_ret
        exact ⟨rfl, HBW.out.trans (hb.mono HBW.out.size)⟩
      · go_enter Tryd.func7, Tryd.ntmps7
        go_wp2_with (first
          | ((with_reducible refine (cBare_any s (by omega) _).mono ?_); rintro e w1 ⟨he, hw1⟩; rw [HB.out] at he; subst he hw1)
          | (go_at_call 9; refine (law4awake_any _).mono ?_; rintro e w9 ⟨rfl, hb⟩))
        go_ret
        exact ⟨rfl, HBW.out.trans (hb.mono HBW.out.size)⟩
      · go_enter Tryd.func7, Tryd.ntmps7
        go_wp2_with (first
          | ((with_reducible refine (cBare_any (⟨#[c]⟩ ++ s) (by omega) _).mono ?_); rintro e w1 ⟨he, hw1⟩; rw [HT.out (letter_no (by omega))] at he; subst he hw1)
          | ((with_reducible refine (cBare_any s (by omega) _).mono ?_); rintro e w1 ⟨he, hw1⟩; rw [HB.out] at he; subst he hw1)
          | (go_at_call 9; refine (law4awake_any _).mono ?_; rintro e w9 ⟨rfl, hb⟩))
        go_ret
        exact ⟨rfl, HBW.out.trans (hb.mono HBW.out.size)⟩
      · go_enter Tryd.func7, Tryd.ntmps7
        go_wp2_with (first
          | ((with_reducible refine (cBare_any (⟨#[c]⟩ ++ s) (by omega) _).mono ?_); rintro e w1 ⟨he, hw1⟩; rw [HT.out (letter_no (by omega))] at he; subst he hw1)
          | ((with_reducible refine (cBare_any s (by omega) _).mono ?_); rintro e w1 ⟨he, hw1⟩; rw [HB.out] at he; subst he hw1)
          | (go_at_call 9; refine (law4awake_any _).mono ?_; rintro e w9 ⟨rfl, hb⟩))
        go_ret
        exact ⟨rfl, HBW.out.trans (hb.mono HBW.out.size)⟩
      · go_enter Tryd.func7, Tryd.ntmps7
        go_wp2_with (first
          | ((with_reducible refine (cBare_any (⟨#[c]⟩ ++ s) (by omega) _).mono ?_); rintro e w1 ⟨he, hw1⟩; rw [HT.out (letter_no (by omega))] at he; subst he hw1)
          | ((with_reducible refine (cBare_any s (by omega) _).mono ?_); rintro e w1 ⟨he, hw1⟩; rw [HB.out] at he; subst he hw1)
          | (go_at_call 9; refine (law4awake_any _).mono ?_; rintro e w9 ⟨rfl, hb⟩))
        go_ret
        exact ⟨rfl, HBW.out.trans (hb.mono HBW.out.size)⟩
    | true =>
      have HB := Lib.hid hb
      have HN1 := Lib.hid (bare_named hb)
      have HN2 := Lib.hid (bare_number hb)
      have HW := Lib.hid (word_bare hb)
      have HS1 : Hid (bareL (s ++ (⟨#[49]⟩ : ByteArray)).data.toList = true) := by
        have e : (s ++ (⟨#[49]⟩ : ByteArray)).data.toList = s.data.toList ++ [49] := by simp [ByteArray.data_append]
        show _ = _
        rw [e]
        exact bare_snoc hb (by decide) (by decide) (by decide)
      have HS2 : Hid (bareL (s ++ (⟨#[95]⟩ : ByteArray)).data.toList = true) := by
        have e : (s ++ (⟨#[95]⟩ : ByteArray)).data.toList = s.data.toList ++ [95] := by simp [ByteArray.data_append]
        show _ = _
        rw [e]
        exact bare_snoc hb (by decide) (by decide) (by decide)
      clear hb
      rcases (by omega : (65 ≤ c.toNat ∧ c.toNat ≤ 90) ∨ (97 ≤ c.toNat ∧ c.toNat ≤ 122) ∨ c.toNat < 65 ∨ (90 < c.toNat ∧ c.toNat < 97) ∨ 122 < c.toNat) with ⟨a1, a2⟩ | ⟨a1, a2⟩ | a1 | ⟨a1, a2⟩ | a1
      · go_enter Tryd.func7, Tryd.ntmps7
        go_wp2_with (first
          | ((with_reducible refine (cBare_any s (by omega) _).mono ?_); rintro e w1 ⟨he, hw1⟩; rw [HB.out] at he; subst he hw1)
          | (go_at_call 10; refine (cParse_str s (by omega) HN1.out HN2.out _).mono ?_; rintro e w2 ⟨rfl, hb⟩
             have HB2 := Lib.hid (HBW.out.trans (hb.mono HBW.out.size))
             clear hb)
          | (go_at_call 9; refine (law4awake_any _).mono ?_; rintro e w3 ⟨rfl, hb⟩
             obtain ⟨x0, f0⟩ := one_boxV hb
             have c0 := x0 0
             have c1 := x0 1
             have c2 := x0 2
             have c3 := x0 3
             have c4 := x0 4
             have c5 := x0 5
             simp at c0 c1 c2 c3 c4 c5
             have HB3 := Lib.hid ((HB2.out.alloc HB2.out.size (.cells (six 3 false 0 s) 25)).trans (hb.mono (by have := HB2.out.size; simp; omega)))
             clear hb x0)
          | (go_at_call 15; refine (cPrint_str _ _ s _ _ _ _ _ _ (by omega) _).mono ?_; rintro e w4 ⟨he, hb⟩
             rw [HW.out] at he
             subst he
             have HB4 := Lib.hid (HB3.out.trans (hb.mono HB3.out.size))
             clear hb)
          | ((with_reducible refine (cBare_any (s ++ ⟨#[49]⟩) (by omega) _).mono ?_); rintro e w5 ⟨he, hw1⟩; rw [HS1.out] at he; subst he hw1)
          | ((with_reducible refine (cBare_any (s ++ ⟨#[95]⟩) (by omega) _).mono ?_); rintro e w6 ⟨he, hw1⟩; rw [HS2.out] at he; subst he hw1))

        go_ret
        exact ⟨rfl, HB4.out⟩
      · go_enter Tryd.func7, Tryd.ntmps7
        go_wp2_with (first
          | ((with_reducible refine (cBare_any s (by omega) _).mono ?_); rintro e w1 ⟨he, hw1⟩; rw [HB.out] at he; subst he hw1)
          | (go_at_call 10; refine (cParse_str s (by omega) HN1.out HN2.out _).mono ?_; rintro e w2 ⟨rfl, hb⟩
             have HB2 := Lib.hid (HBW.out.trans (hb.mono HBW.out.size))
             clear hb)
          | (go_at_call 9; refine (law4awake_any _).mono ?_; rintro e w3 ⟨rfl, hb⟩
             obtain ⟨x0, f0⟩ := one_boxV hb
             have c0 := x0 0
             have c1 := x0 1
             have c2 := x0 2
             have c3 := x0 3
             have c4 := x0 4
             have c5 := x0 5
             simp at c0 c1 c2 c3 c4 c5
             have HB3 := Lib.hid ((HB2.out.alloc HB2.out.size (.cells (six 3 false 0 s) 25)).trans (hb.mono (by have := HB2.out.size; simp; omega)))
             clear hb x0)
          | (go_at_call 15; refine (cPrint_str _ _ s _ _ _ _ _ _ (by omega) _).mono ?_; rintro e w4 ⟨he, hb⟩
             rw [HW.out] at he
             subst he
             have HB4 := Lib.hid (HB3.out.trans (hb.mono HB3.out.size))
             clear hb)
          | ((with_reducible refine (cBare_any (s ++ ⟨#[49]⟩) (by omega) _).mono ?_); rintro e w5 ⟨he, hw1⟩; rw [HS1.out] at he; subst he hw1)
          | ((with_reducible refine (cBare_any (s ++ ⟨#[95]⟩) (by omega) _).mono ?_); rintro e w6 ⟨he, hw1⟩; rw [HS2.out] at he; subst he hw1))

        go_ret
        exact ⟨rfl, HB4.out⟩
      · go_enter Tryd.func7, Tryd.ntmps7
        go_wp2_with (first
          | ((with_reducible refine (cBare_any (⟨#[c]⟩ ++ s) (by omega) _).mono ?_); rintro e w1 ⟨he, hw1⟩; rw [HT.out (letter_no (by omega))] at he; subst he hw1)
          | ((with_reducible refine (cBare_any s (by omega) _).mono ?_); rintro e w1 ⟨he, hw1⟩; rw [HB.out] at he; subst he hw1)
          | (go_at_call 10; refine (cParse_str s (by omega) HN1.out HN2.out _).mono ?_; rintro e w2 ⟨rfl, hb⟩
             have HB2 := Lib.hid (HBW.out.trans (hb.mono HBW.out.size))
             clear hb)
          | (go_at_call 9; refine (law4awake_any _).mono ?_; rintro e w3 ⟨rfl, hb⟩
             obtain ⟨x0, f0⟩ := one_boxV hb
             have c0 := x0 0
             have c1 := x0 1
             have c2 := x0 2
             have c3 := x0 3
             have c4 := x0 4
             have c5 := x0 5
             simp at c0 c1 c2 c3 c4 c5
             have HB3 := Lib.hid ((HB2.out.alloc HB2.out.size (.cells (six 3 false 0 s) 25)).trans (hb.mono (by have := HB2.out.size; simp; omega)))
             clear hb x0)
          | (go_at_call 15; refine (cPrint_str _ _ s _ _ _ _ _ _ (by omega) _).mono ?_; rintro e w4 ⟨he, hb⟩
             rw [HW.out] at he
             subst he
             have HB4 := Lib.hid (HB3.out.trans (hb.mono HB3.out.size))
             clear hb)
          | ((with_reducible refine (cBare_any (s ++ ⟨#[49]⟩) (by omega) _).mono ?_); rintro e w5 ⟨he, hw1⟩; rw [HS1.out] at he; subst he hw1)
          | ((with_reducible refine (cBare_any (s ++ ⟨#[95]⟩) (by omega) _).mono ?_); rintro e w6 ⟨he, hw1⟩; rw [HS2.out] at he; subst he hw1))

        go_ret
        exact ⟨rfl, HB4.out⟩
      · go_enter Tryd.func7, Tryd.ntmps7
        go_wp2_with (first
          | ((with_reducible refine (cBare_any (⟨#[c]⟩ ++ s) (by omega) _).mono ?_); rintro e w1 ⟨he, hw1⟩; rw [HT.out (letter_no (by omega))] at he; subst he hw1)
          | ((with_reducible refine (cBare_any s (by omega) _).mono ?_); rintro e w1 ⟨he, hw1⟩; rw [HB.out] at he; subst he hw1)
          | (go_at_call 10; refine (cParse_str s (by omega) HN1.out HN2.out _).mono ?_; rintro e w2 ⟨rfl, hb⟩
             have HB2 := Lib.hid (HBW.out.trans (hb.mono HBW.out.size))
             clear hb)
          | (go_at_call 9; refine (law4awake_any _).mono ?_; rintro e w3 ⟨rfl, hb⟩
             obtain ⟨x0, f0⟩ := one_boxV hb
             have c0 := x0 0
             have c1 := x0 1
             have c2 := x0 2
             have c3 := x0 3
             have c4 := x0 4
             have c5 := x0 5
             simp at c0 c1 c2 c3 c4 c5
             have HB3 := Lib.hid ((HB2.out.alloc HB2.out.size (.cells (six 3 false 0 s) 25)).trans (hb.mono (by have := HB2.out.size; simp; omega)))
             clear hb x0)
          | (go_at_call 15; refine (cPrint_str _ _ s _ _ _ _ _ _ (by omega) _).mono ?_; rintro e w4 ⟨he, hb⟩
             rw [HW.out] at he
             subst he
             have HB4 := Lib.hid (HB3.out.trans (hb.mono HB3.out.size))
             clear hb)
          | ((with_reducible refine (cBare_any (s ++ ⟨#[49]⟩) (by omega) _).mono ?_); rintro e w5 ⟨he, hw1⟩; rw [HS1.out] at he; subst he hw1)
          | ((with_reducible refine (cBare_any (s ++ ⟨#[95]⟩) (by omega) _).mono ?_); rintro e w6 ⟨he, hw1⟩; rw [HS2.out] at he; subst he hw1))

        go_ret
        exact ⟨rfl, HB4.out⟩
      · go_enter Tryd.func7, Tryd.ntmps7
        go_wp2_with (first
          | ((with_reducible refine (cBare_any (⟨#[c]⟩ ++ s) (by omega) _).mono ?_); rintro e w1 ⟨he, hw1⟩; rw [HT.out (letter_no (by omega))] at he; subst he hw1)
          | ((with_reducible refine (cBare_any s (by omega) _).mono ?_); rintro e w1 ⟨he, hw1⟩; rw [HB.out] at he; subst he hw1)
          | (go_at_call 10; refine (cParse_str s (by omega) HN1.out HN2.out _).mono ?_; rintro e w2 ⟨rfl, hb⟩
             have HB2 := Lib.hid (HBW.out.trans (hb.mono HBW.out.size))
             clear hb)
          | (go_at_call 9; refine (law4awake_any _).mono ?_; rintro e w3 ⟨rfl, hb⟩
             obtain ⟨x0, f0⟩ := one_boxV hb
             have c0 := x0 0
             have c1 := x0 1
             have c2 := x0 2
             have c3 := x0 3
             have c4 := x0 4
             have c5 := x0 5
             simp at c0 c1 c2 c3 c4 c5
             have HB3 := Lib.hid ((HB2.out.alloc HB2.out.size (.cells (six 3 false 0 s) 25)).trans (hb.mono (by have := HB2.out.size; simp; omega)))
             clear hb x0)
          | (go_at_call 15; refine (cPrint_str _ _ s _ _ _ _ _ _ (by omega) _).mono ?_; rintro e w4 ⟨he, hb⟩
             rw [HW.out] at he
             subst he
             have HB4 := Lib.hid (HB3.out.trans (hb.mono HB3.out.size))
             clear hb)
          | ((with_reducible refine (cBare_any (s ++ ⟨#[49]⟩) (by omega) _).mono ?_); rintro e w5 ⟨he, hw1⟩; rw [HS1.out] at he; subst he hw1)
          | ((with_reducible refine (cBare_any (s ++ ⟨#[95]⟩) (by omega) _).mono ?_); rintro e w6 ⟨he, hw1⟩; rw [HS2.out] at he; subst he hw1))

        go_ret
        exact ⟨rfl, HB4.out⟩
  · go_enter Tryd.func7, Tryd.ntmps7
    go_wp2_with (go_at_call 9; refine (law4awake_any _).mono ?_; rintro e w1 ⟨rfl, hb⟩)
    go_ret
    exact ⟨rfl, hb⟩

end Go.Proofs.YtfadijofnaepnaaDoor
