/-
  Package scalar's Print of a text, and the law's awake.
-/
import Derived.Test.YtlniokpekcoodaaGreatDoorCParse
set_option linter.unusedVariables false
set_option linter.unusedSimpArgs false
namespace Go.Proofs.YtlniokpekcoodaaGreatDoor
open Go.RowKit

theorem word_ab : wordB ⟨#[97, 32, 98]⟩ = ⟨#[34, 97, 32, 98, 34]⟩ := by
  rw [wordB, if_neg (by decide)]
  rfl
theorem word_v : wordB ⟨#[118, 49, 46, 50, 47, 120]⟩ = ⟨#[118, 49, 46, 50, 47, 120]⟩ := by
  rw [wordB, if_pos (by decide)]

end Go.Proofs.YtlniokpekcoodaaGreatDoor

/-
  ScalarBares: the law's contract.
-/
set_option linter.unusedVariables false
set_option linter.unusedSimpArgs false
namespace Go.Proofs.YtlniokpekcoodaaGreatDoor
open Go.RowKit

theorem bare_parts {c : UInt8} {l : List UInt8} (h : bareL (c :: l) = true) : letterB c = true ∧ wordsB (c :: l) = false ∧ (c :: l).all bareB = true := by
  unfold bareL at h
  rw [Bool.and_eq_true, Bool.and_eq_true, Bool.not_eq_true'] at h
  exact ⟨h.1.1, h.1.2, h.2⟩
theorem letter_not {c : UInt8} (h : letterB c = true) : digitB c = false ∧ c ≠ 45 ∧ c ≠ 126 ∧ c ≠ 34 ∧ c ≠ 39 := by
  have : ∀ n : Fin 256, letterB (UInt8.ofNat n.val) = true → digitB (UInt8.ofNat n.val) = false ∧ UInt8.ofNat n.val ≠ 45 ∧ UInt8.ofNat n.val ≠ 126 ∧ UInt8.ofNat n.val ≠ 34 ∧ UInt8.ofNat n.val ≠ 39 := by decide +kernel
  have hc := this ⟨c.toNat, c.toNat_lt⟩
  have e : UInt8.ofNat c.toNat = c := by simp
  simp only [e] at hc
  exact hc h
theorem bare_named {l : List UInt8} (h : bareL l = true) : namedB l = false := by
  cases l with
  | nil => cases h
  | cons c l =>
    obtain ⟨h1, h2, _⟩ := bare_parts h
    unfold wordsB at h2
    simp only [Bool.or_eq_false_iff] at h2
    have h126 : decide (c :: l = [126]) = false := decide_eq_false (fun e => (letter_not h1).2.2.1 (by injection e))
    unfold namedB
    rw [h126, h2.1.1, h2.1.2, h2.2]
    rfl
theorem bare_number {l : List UInt8} (h : bareL l = true) : numberL l = false := by
  cases l with
  | nil => cases h
  | cons c l =>
    obtain ⟨h1, h2, _⟩ := bare_parts h
    have hp : Lib.trimPrefix (c :: l) [45] = c :: l := by
      unfold Lib.trimPrefix Lib.hasPrefix
      have : List.isPrefixOf [45] (c :: l) = false := by
        simp only [List.isPrefixOf]
        rw [show ((45 : UInt8) == c) = false from beq_eq_false_iff_ne.2 (Ne.symm (letter_not h1).2.1)]
        rfl
      rw [this]
      rfl
    unfold numberL
    rw [hp, List.all_cons, (letter_not h1).1]
    simp
theorem bare_snoc {l : List UInt8} {b : UInt8} (h : bareL l = true) (hb : bareB b = true) (h1 : b ≠ 108) (h2 : b ≠ 101) : bareL (l ++ [b]) = true := by
  cases l with
  | nil => cases h
  | cons c l =>
    obtain ⟨a1, a2, a3⟩ := bare_parts h
    have hl : ∀ (x : List UInt8) (y : UInt8), b ≠ y → decide (c :: (l ++ [b]) = x ++ [y]) = false := fun x y hy => decide_eq_false (fun e => hy (by
      have e2 : (c :: l) ++ [b] = x ++ [y] := e
      have := List.append_inj_right' e2 rfl
      injection this))
    show (letterB c && !(decide (c :: (l ++ [b]) = [110, 117, 108, 108]) || decide (c :: (l ++ [b]) = [116, 114, 117, 101]) || decide (c :: (l ++ [b]) = [102, 97, 108, 115, 101])) && (c :: (l ++ [b])).all bareB) = true
    have e1 := hl [110, 117, 108] 108 h1
    have e2 := hl [116, 114, 117] 101 h2
    have e3 := hl [102, 97, 108, 115] 101 h2
    have e1' : decide (c :: (l ++ [b]) = [110, 117, 108, 108]) = false := e1
    have e2' : decide (c :: (l ++ [b]) = [116, 114, 117, 101]) = false := e2
    have e3' : decide (c :: (l ++ [b]) = [102, 97, 108, 115, 101]) = false := e3
    rw [a1, e1', e2', e3']
    have e4 : (c :: (l ++ [b])).all bareB = true := by
      rw [show c :: (l ++ [b]) = (c :: l) ++ [b] from rfl, List.all_append, a3]
      simp [hb]
    rw [e4]
    rfl
theorem word_bare {s : ByteArray} (h : bareL s.data.toList = true) : wordB s = s := by rw [wordB, if_pos h]

theorem letter_no {c : UInt8} (h : c.toNat < 65 ∨ (90 < c.toNat ∧ c.toNat < 97) ∨ 122 < c.toNat) : letterB c = false := by
  unfold letterB
  simp only [Bool.or_eq_false_iff, Bool.and_eq_false_iff, decide_eq_false_iff_not]
  omega

end Go.Proofs.YtlniokpekcoodaaGreatDoor

/-
  Numerals: what is printed of a whole number is read as it, with noughts ahead, too.
-/
set_option linter.unusedVariables false
set_option linter.unusedSimpArgs false
namespace Go.Proofs.YtlniokpekcoodaaGreatDoor
open Go.RowKit

/-- The number that digits spell behind another. -/
def valL (acc : Nat) : List UInt8 → Nat
  | [] => acc
  | c :: r => valL (acc * 10 + (c.toNat - 48)) r

theorem valL_append : ∀ (a b : List UInt8) (acc : Nat), valL acc (a ++ b) = valL (valL acc a) b
  | [], b, acc => rfl
  | c :: a, b, acc => valL_append a b _
theorem valL_le : ∀ (l : List UInt8) (acc : Nat), acc ≤ valL acc l
  | [], acc => Nat.le_refl _
  | c :: l, acc => Nat.le_trans (by omega) (valL_le l (acc * 10 + (c.toNat - 48)))
theorem digit_iff {c : UInt8} : digitB c = true ↔ 48 ≤ c.toNat ∧ c.toNat ≤ 57 := by
  unfold digitB
  simp
theorem parse_val (M : Nat) (hM : M ≤ 18446744073709551615) : ∀ (l : List UInt8) (acc : Nat), l.all digitB = true → valL acc l ≤ M → Lib.parseUintM M acc l = .ok (valL acc l)
  | [], acc, _, _ => rfl
  | c :: l, acc, h, hv => by
    rw [List.all_cons, Bool.and_eq_true] at h
    have hc := digit_iff.1 h.1
    have h1 := valL_le l (acc * 10 + (c.toNat - 48))
    have hv' : valL (acc * 10 + (c.toNat - 48)) l ≤ M := hv
    rw [Lib.parseUintM, if_pos hc, if_neg (by omega), if_neg (by omega), parse_val M hM l _ h.2 hv']
    rfl
theorem dec_all : ∀ u, (Lib.decDigits u).all digitB = true ∧ valL 0 (Lib.decDigits u) = u ∧ Lib.decDigits u ≠ [] := by
  intro u
  induction u using Nat.strongRecOn with
  | ind u ih =>
    rw [Lib.decDigits]
    have hd : ∀ d, d < 10 → digitB (UInt8.ofNat (48 + d)) = true ∧ (UInt8.ofNat (48 + d)).toNat - 48 = d := fun d h => by
      have e : (UInt8.ofNat (48 + d)).toNat = 48 + d := by simp; omega
      exact ⟨digit_iff.2 (by rw [e]; omega), by rw [e]; omega⟩
    by_cases h : u < 10
    · rw [dif_pos h]
      refine ⟨by rw [List.all_cons, List.all_nil, (hd u h).1]; rfl, ?_, by simp⟩
      show 0 * 10 + ((UInt8.ofNat (48 + u)).toNat - 48) = u
      rw [(hd u h).2]
      omega
    · rw [dif_neg h]
      obtain ⟨a1, a2, a3⟩ := ih (u / 10) (by omega)
      have h10 := hd (u % 10) (by omega)
      refine ⟨by rw [List.all_append, a1, List.all_cons, List.all_nil, h10.1]; rfl, ?_, by simp⟩
      rw [valL_append, a2]
      show u / 10 * 10 + ((UInt8.ofNat (48 + u % 10)).toNat - 48) = u
      rw [h10.2]
      omega
theorem val_zeros : ∀ (k : Nat) (l : List UInt8), valL 0 (List.replicate k 48 ++ l) = valL 0 l
  | 0, l => rfl
  | k + 1, l => by
    rw [List.replicate_succ]
    show valL (0 * 10 + ((48 : UInt8).toNat - 48)) (List.replicate k 48 ++ l) = _
    exact val_zeros k l

/-- Noughts and digits: a whole number that isn't negative, as it may be written. -/
theorem nat_digits (k u : Nat) : (List.replicate k 48 ++ Lib.decDigits u).all digitB = true ∧ valL 0 (List.replicate k 48 ++ Lib.decDigits u) = u ∧ List.replicate k 48 ++ Lib.decDigits u ≠ [] := by
  obtain ⟨a1, a2, a3⟩ := dec_all u
  refine ⟨?_, by rw [val_zeros, a2], by simp [a3]⟩
  rw [List.all_append, a1, Bool.and_true, List.all_eq_true]
  intro x hx
  rw [List.eq_of_mem_replicate hx]
  decide

/-- A word that is digits, or a minus and digits. -/
theorem digits_word {l : List UInt8} (h : l.all digitB = true) (h0 : l ≠ []) : numberL l = true ∧ namedB l = false ∧ bareL l = false ∧ numberL (45 :: l) = true ∧ namedB (45 :: l) = false ∧ bareL (45 :: l) = false := by
  cases l with
  | nil => exact absurd rfl h0
  | cons c l =>
    rw [List.all_cons, Bool.and_eq_true] at h
    have hc := digit_iff.1 h.1
    have ne : ∀ d : UInt8, d.toNat < 48 ∨ 57 < d.toNat → c ≠ d := fun d hd e => by subst e; omega
    have hl : letterB c = false := letter_no (by omega)
    have nn : ∀ d : UInt8, ∀ r : List UInt8, d.toNat < 48 ∨ 57 < d.toNat → decide (c :: l = d :: r) = false := fun d r hd => decide_eq_false (fun e => ne d hd (by injection e))
    have hp : Lib.trimPrefix (c :: l) [45] = c :: l := by
      unfold Lib.trimPrefix Lib.hasPrefix
      have : List.isPrefixOf [45] (c :: l) = false := by
        simp only [List.isPrefixOf]
        rw [show ((45 : UInt8) == c) = false from beq_eq_false_iff_ne.2 (Ne.symm (ne 45 (by decide)))]
        rfl
      rw [this]
      rfl
    have hp2 : Lib.trimPrefix (45 :: c :: l) [45] = c :: l := by
      unfold Lib.trimPrefix Lib.hasPrefix
      have : List.isPrefixOf [45] (45 :: c :: l) = true := by simp [List.isPrefixOf]
      rw [this]
      rfl
    have mm : ∀ d : UInt8, ∀ r : List UInt8, (45 : UInt8) ≠ d → decide (45 :: c :: l = d :: r) = false := fun d r hd => decide_eq_false (fun e => hd (by injection e))
    refine ⟨?_, ?_, ?_, ?_, ?_, ?_⟩
    · unfold numberL
      rw [hp, List.all_cons, h.1, h.2]
      simp
    · unfold namedB
      rw [nn 126 [] (by decide), nn 110 _ (by decide), nn 116 _ (by decide), nn 102 _ (by decide)]
      simp
    · unfold bareL
      simp [hl]
    · unfold numberL
      rw [hp2, List.all_cons, h.1, h.2]
      simp
    · unfold namedB
      rw [mm 126 [] (by decide), mm 110 _ (by decide), mm 116 _ (by decide), mm 102 _ (by decide)]
      simp
    · unfold bareL
      simp [show letterB 45 = false by decide]

/-- Digits are read as their number. -/
theorem parse_pos {l : List UInt8} (h : l.all digitB = true) (h0 : l ≠ []) (hv : valL 0 l < 9223372036854775808) : Lib.parseIntB 64 l = .ok (valL 0 l) := by
  have hp := parse_val (2 ^ 64 - 1) (by decide) l 0 h (by omega)
  cases l with
  | nil => exact absurd rfl h0
  | cons c l =>
    have hc := digit_iff.1 (by rw [List.all_cons, Bool.and_eq_true] at h; exact h.1)
    have e1 : ¬ (c.toNat = 43 ∨ c.toNat = 45) := by omega
    have e2 : ¬ (c.toNat = 45) := by omega
    unfold Lib.parseIntB
    simp only [if_neg e1]
    unfold Lib.parseUintB
    rw [if_neg (by simp), hp]
    simp only
    rw [if_neg (by rintro ⟨_, h⟩; revert h; show ¬ 2 ^ 63 ≤ _; omega), if_neg (by rintro ⟨h, _⟩; exact e2 h), if_neg e2]
theorem parse_neg {l : List UInt8} (h : l.all digitB = true) (h0 : l ≠ []) (hv : valL 0 l ≤ 9223372036854775808) : Lib.parseIntB 64 (45 :: l) = .ok (-(valL 0 l : Int)) := by
  have hp := parse_val (2 ^ 64 - 1) (by decide) l 0 h (by omega)
  have e3 : (45 : UInt8).toNat = 45 := rfl
  unfold Lib.parseIntB
  simp only [e3]
  rw [if_pos (Or.inr trivial)]
  unfold Lib.parseUintB
  rw [if_neg h0, hp]
  simp only
  rw [if_neg (by rintro ⟨h, _⟩; exact h trivial), if_neg (by rintro ⟨_, h⟩; revert h; show ¬ 2 ^ 63 < _; omega)]
  simp

end Go.Proofs.YtlniokpekcoodaaGreatDoor
