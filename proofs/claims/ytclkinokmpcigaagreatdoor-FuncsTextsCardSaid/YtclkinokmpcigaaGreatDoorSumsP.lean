/-
  What whole numbers come to, and where they are too far out: pure.
-/
import Derived.Test.YtclkinokmpcigaaGreatDoorVals
set_option linter.unusedVariables false
set_option linter.unusedSimpArgs false
namespace Go.Proofs.YtclkinokmpcigaaGreatDoor
/-- Within the bounds of int64. -/
def inI (n : Int) : Prop := -9223372036854775808 ≤ n ∧ n ≤ 9223372036854775807
theorem tdiv_pos_le {m a b : Int} (ha : 0 < a) (hm : 0 ≤ m) : b ≤ m.tdiv a ↔ a * b ≤ m := by
  rw [Int.tdiv_eq_ediv_of_nonneg hm, Int.le_ediv_iff_mul_le ha, Int.mul_comm]
theorem tdiv_neg_le {m a b : Int} (ha : 0 < a) (hm : 0 ≤ m) : (-m).tdiv a ≤ b ↔ -m ≤ a * b := by
  rw [Int.neg_tdiv]
  have := tdiv_pos_le (b := -b) ha hm
  rw [Int.mul_neg] at this
  omega
/-- a > 0 -/
theorem times_pos {a b : Int} (ha : 0 < a) : ((-9223372036854775808 : Int).tdiv a ≤ b ∧ b ≤ (9223372036854775807 : Int).tdiv a) ↔ inI (a * b) := by
  rw [tdiv_pos_le ha (by decide)]
  have := tdiv_neg_le (m := 9223372036854775808) (b := b) ha (by decide)
  rw [this]
  rfl
theorem times_neg {a b : Int} (ha : a < 0) : ((9223372036854775807 : Int).tdiv a ≤ b ∧ b ≤ (-9223372036854775808 : Int).tdiv a) ↔ inI (a * b) := by
  have h0 : 0 < -a := by omega
  have e1 : (9223372036854775807 : Int).tdiv a = -((9223372036854775807 : Int).tdiv (-a)) := by rw [Int.tdiv_neg]; omega
  have e2 : (-9223372036854775808 : Int).tdiv a = (9223372036854775808 : Int).tdiv (-a) := by rw [Int.tdiv_neg, Int.neg_tdiv]
  rw [e1, e2]
  have h1 := tdiv_pos_le (m := 9223372036854775807) (b := -b) h0 (by decide)
  have h2 := tdiv_pos_le (m := 9223372036854775808) (b := b) h0 (by decide)
  rw [Int.neg_mul_neg] at h1
  rw [Int.neg_mul] at h2
  unfold inI
  omega
end Go.Proofs.YtclkinokmpcigaaGreatDoor
