/-
  Which texts, and which keys, may be.
-/
import Derived.Test.YtbbpipjadniafaaDoorVals
set_option linter.unusedVariables false
set_option linter.unusedSimpArgs false
namespace Go.Proofs.YtbbpipjadniafaaDoor
open Go.RowKit

def badByte (c : Nat) : Bool := (decide (c < 32) || decide (126 < c)) && (!decide (c = 9)) && (!decide (c = 10))
def textB (s : ByteArray) : Bool := decide (s.size ≤ 65536) && s.data.toList.all fun c => !badByte c.toNat
def noBad (s : ByteArray) (j : Nat) : Bool := (s.data.toList.take j).all fun c => !badByte c.toNat
theorem noBad_zero (s : ByteArray) : noBad s 0 = true := by simp [noBad]
theorem noBad_succ (s : ByteArray) (j : Nat) (h : j < s.size) : noBad s (j + 1) = (noBad s j && !badByte (s[j]).toNat) := by
  unfold noBad
  rw [List.take_succ_eq_append_getElem (by simpa using h), List.all_append]
  simp
  rfl

theorem textB_bad (s : ByteArray) (j : Nat) (h : j < s.size) (hb : badByte (s[j]).toNat = true) : textB s = false := by
  unfold textB
  rw [Bool.and_eq_false_iff]
  right
  rw [List.all_eq_false]
  exact ⟨s[j], by simp [ByteArray.getElem_eq_getElem_data], by simp [hb]⟩
theorem textB_good (s : ByteArray) (h : noBad s s.size = true) : textB s = decide (s.size ≤ 65536) := by
  unfold textB
  unfold noBad at h
  rw [List.take_of_length_le (by simp)] at h
  rw [h, Bool.and_true]
theorem textB_long (s : ByteArray) (h : 65536 < s.size) : textB s = false := by
  unfold textB
  rw [decide_eq_false (by omega), Bool.false_and]

theorem byte_cases (c : Nat) : (badByte c = false ∧ (c : Int) < 32 ∧ ((c : Int) != 9) = false) ∨ (badByte c = false ∧ (c : Int) < 32 ∧ ((c : Int) != 9) = true ∧ ((c : Int) != 10) = false) ∨ (badByte c = false ∧ 32 ≤ (c : Int) ∧ (c : Int) ≤ 126) ∨
    (badByte c = true ∧ (c : Int) < 32 ∧ ((c : Int) != 9) = true ∧ ((c : Int) != 10) = true) ∨ (badByte c = true ∧ 126 < (c : Int) ∧ ((c : Int) != 9) = true ∧ ((c : Int) != 10) = true) := by
  simp only [badByte, bne_iff_ne, bne_eq_false_iff_eq, Bool.and_eq_true, Bool.or_eq_true, Bool.and_eq_false_iff, Bool.or_eq_false_iff, decide_eq_true_eq, decide_eq_false_iff_not, Bool.not_eq_true', Bool.not_eq_false', ne_eq]
  omega

/-- May a key be so? -/
def badKey (c : Nat) : Bool := decide (c < 32) || decide (126 < c)
def keyB (s : ByteArray) : Bool := decide (1 ≤ s.size) && decide (s.size ≤ 256) && s.data.toList.all fun c => !badKey c.toNat
def noBadKey (s : ByteArray) (j : Nat) : Bool := (s.data.toList.take j).all fun c => !badKey c.toNat
theorem noBadKey_zero (s : ByteArray) : noBadKey s 0 = true := by simp [noBadKey]
theorem noBadKey_succ (s : ByteArray) (j : Nat) (h : j < s.size) : noBadKey s (j + 1) = (noBadKey s j && !badKey (s[j]).toNat) := by
  unfold noBadKey
  rw [List.take_succ_eq_append_getElem (by simpa using h), List.all_append]
  simp
  rfl
theorem keyB_bad (s : ByteArray) (j : Nat) (h : j < s.size) (hb : badKey (s[j]).toNat = true) : keyB s = false := by
  unfold keyB
  rw [Bool.and_eq_false_iff]
  right
  rw [List.all_eq_false]
  exact ⟨s[j], by simp [ByteArray.getElem_eq_getElem_data], by simp [hb]⟩
theorem keyB_good (s : ByteArray) (h : noBadKey s s.size = true) : keyB s = (decide (1 ≤ s.size) && decide (s.size ≤ 256)) := by
  unfold keyB
  unfold noBadKey at h
  rw [List.take_of_length_le (by simp)] at h
  rw [h, Bool.and_true]

theorem key_cases (c : Nat) : (badKey c = false ∧ 32 ≤ (c : Int) ∧ (c : Int) ≤ 126) ∨ (badKey c = true ∧ (c : Int) < 32) ∨ (badKey c = true ∧ 126 < (c : Int)) := by
  simp only [badKey, Bool.or_eq_true, Bool.or_eq_false_iff, decide_eq_true_eq, decide_eq_false_iff_not]
  omega

end Go.Proofs.YtbbpipjadniafaaDoor
