/-
  Package funcs' plus, minus and times.
-/
import Derived.Test.YtclkinokmpcigaaGreatDoorSumsP
set_option linter.unusedVariables false
set_option linter.unusedSimpArgs false
namespace Go.Proofs.YtclkinokmpcigaaGreatDoor
open Go.RowKit

theorem inI_def (n : Int) : inI n ↔ -9223372036854775808 ≤ n ∧ n ≤ 9223372036854775807 := Iff.rfl
/-- What a number comes to: it, or that it is too far out. -/
noncomputable def outI (n : Int) (e : Ending) (w w' : World) : Prop := (inI n ∧ e = .returned (.tuple #[.int .i64 n, .bool true]) ∨ ¬ inI n ∧ e = .returned (.tuple #[.int .i64 0, .bool false])) ∧ Below w.heap.size w w'

set_option maxRecDepth 100000 in
theorem fplus_any (a b : Int) (ha : inI a) (hb : inI b) (w : World) : Calls Tryz.prog 97 #[.int .i64 a, .int .i64 b] w fun e w' => outI (a + b) e w w' := by
  go_enter Tryz.func97, Tryz.ntmps97
  obtain ⟨ha0, ha1⟩ := ha
  obtain ⟨hb0, hb1⟩ := hb
  by_cases h1 : b < 0
  · have d1 : decide (b < 0) = true := by simp [h1]
    by_cases h2 : a < -9223372036854775808 - b
    · have d2 : decide (a < -9223372036854775808 - b) = true := by simp only [decide_eq_true_eq]; omega
      go_wp2_with fail
      go_ret2
      exact ⟨.inr ⟨fun h => by unfold inI at h; omega, rfl⟩, Below.refl _ _⟩
    · have d2 : decide (a < -9223372036854775808 - b) = false := by simp only [decide_eq_false_iff_not]; omega
      have d3 : decide (0 < b) = false := by simp only [decide_eq_false_iff_not]; omega
      go_wp2_with fail
      go_ret2
      exact ⟨.inl ⟨⟨by omega, by omega⟩, rfl⟩, Below.refl _ _⟩
  · have d1 : decide (b < 0) = false := by simp [h1]
    by_cases h3 : 0 < b
    · have d3 : decide (0 < b) = true := by simp [h3]
      by_cases h2 : 9223372036854775807 - b < a
      · have d2 : decide (9223372036854775807 - b < a) = true := by simp only [decide_eq_true_eq]; omega
        go_wp2_with fail
        go_ret2
        exact ⟨.inr ⟨fun h => by unfold inI at h; omega, rfl⟩, Below.refl _ _⟩
      · have d2 : decide (9223372036854775807 - b < a) = false := by simp only [decide_eq_false_iff_not]; omega
        go_wp2_with fail
        go_ret2
        exact ⟨.inl ⟨⟨by omega, by omega⟩, rfl⟩, Below.refl _ _⟩
    · have d3 : decide (0 < b) = false := by simp only [decide_eq_false_iff_not]; omega
      go_wp2_with fail
      go_ret2
      exact ⟨.inl ⟨⟨by omega, by omega⟩, rfl⟩, Below.refl _ _⟩

set_option maxRecDepth 100000 in
theorem fminus_any (a b : Int) (ha : inI a) (hb : inI b) (w : World) : Calls Tryz.prog 98 #[.int .i64 a, .int .i64 b] w fun e w' => outI (a - b) e w w' := by
  go_enter Tryz.func98, Tryz.ntmps98
  obtain ⟨ha0, ha1⟩ := ha
  obtain ⟨hb0, hb1⟩ := hb
  by_cases h1 : b < 0
  · have d1 : decide (b < 0) = true := by simp [h1]
    by_cases h2 : 9223372036854775807 + b < a
    · have d2 : decide (9223372036854775807 + b < a) = true := by simp only [decide_eq_true_eq]; omega
      go_wp2_with fail
      go_ret2
      exact ⟨.inr ⟨fun h => by unfold inI at h; omega, rfl⟩, Below.refl _ _⟩
    · have d2 : decide (9223372036854775807 + b < a) = false := by simp only [decide_eq_false_iff_not]; omega
      have d3 : decide (0 < b) = false := by simp only [decide_eq_false_iff_not]; omega
      go_wp2_with fail
      go_ret2
      exact ⟨.inl ⟨⟨by omega, by omega⟩, rfl⟩, Below.refl _ _⟩
  · have d1 : decide (b < 0) = false := by simp [h1]
    by_cases h3 : 0 < b
    · have d3 : decide (0 < b) = true := by simp [h3]
      by_cases h2 : a < -9223372036854775808 + b
      · have d2 : decide (a < -9223372036854775808 + b) = true := by simp only [decide_eq_true_eq]; omega
        go_wp2_with fail
        go_ret2
        exact ⟨.inr ⟨fun h => by unfold inI at h; omega, rfl⟩, Below.refl _ _⟩
      · have d2 : decide (a < -9223372036854775808 + b) = false := by simp only [decide_eq_false_iff_not]; omega
        go_wp2_with fail
        go_ret2
        exact ⟨.inl ⟨⟨by omega, by omega⟩, rfl⟩, Below.refl _ _⟩
    · have d3 : decide (0 < b) = false := by simp only [decide_eq_false_iff_not]; omega
      go_wp2_with fail
      go_ret2
      exact ⟨.inl ⟨⟨by omega, by omega⟩, rfl⟩, Below.refl _ _⟩

theorem wrap64_in (n : Int) (h : -9223372036854775808 ≤ n ∧ n ≤ 9223372036854775807) : wrap64 n = n := by unfold wrap64; omega
theorem outI_of {n : Int} {ok : Prop} [Decidable ok] (h : ok ↔ inI n) (w : World) :
    (ok → outI n (.returned (.tuple #[.int .i64 (wrap64 n), .bool true])) w w) ∧ (¬ ok → outI n (.returned (.tuple #[.int .i64 0, .bool false])) w w) :=
  ⟨fun q => ⟨.inl ⟨h.1 q, by rw [wrap64_in n (h.1 q)]⟩, Below.refl _ _⟩, fun q => ⟨.inr ⟨fun x => q (h.2 x), rfl⟩, Below.refl _ _⟩⟩
theorem tdiv_bounds {m a : Int} (hm : 0 ≤ m) (ha : 0 < a) : 0 ≤ m.tdiv a ∧ m.tdiv a ≤ m := by
  rw [Int.tdiv_eq_ediv_of_nonneg hm]
  exact ⟨Int.ediv_nonneg hm (by omega), Int.ediv_le_self a hm⟩
theorem tdiv_neg_bounds {m a : Int} (hm : 0 ≤ m) (ha : a < -1) : -m ≤ 2 * m.tdiv a ∧ m.tdiv a ≤ 0 := by
  have e : m.tdiv a = -(m.tdiv (-a)) := by rw [Int.tdiv_neg]; omega
  rw [e, Int.tdiv_eq_ediv_of_nonneg hm]
  have h0 := Int.ediv_nonneg hm (show 0 ≤ -a by omega)
  have h1 : m / (-a) * (-a) ≤ m := Int.ediv_mul_le m (by omega)
  have h2 : m / (-a) * 2 ≤ m / (-a) * (-a) := Int.mul_le_mul_of_nonneg_left (by omega) h0
  exact ⟨by omega, by omega⟩

set_option maxRecDepth 100000 in
theorem ftimes_any (a b : Int) (ha : inI a) (hb : inI b) (w : World) : Calls Tryz.prog 99 #[.int .i64 a, .int .i64 b] w fun e w' => outI (a * b) e w w' := by
  have MI := Lib.hid (fun w1 => fminus_any 0 b ⟨by decide, by decide⟩ hb w1)
  go_enter Tryz.func99, Tryz.ntmps99
  obtain ⟨ha0, ha1⟩ := ha
  obtain ⟨hb0, hb1⟩ := hb
  by_cases h1 : 0 < a
  · have d1 : decide (0 < a) = true := by simp [h1]
    have hz : (a == 0) = false := by rw [beq_eq_false_iff_ne]; omega
    have hm : (a == -1) = false := by rw [beq_eq_false_iff_ne]; omega
    have ht := times_pos (b := b) h1
    have e1 : wrap64 (-Int.tdiv 9223372036854775808 a) = -Int.tdiv 9223372036854775808 a := by
      have := tdiv_bounds (m := 9223372036854775808) (by decide) h1
      exact wrap64_in _ (by omega)
    have e2 : (-9223372036854775808 : Int).tdiv a = -Int.tdiv 9223372036854775808 a := by rw [Int.neg_tdiv]
    have e3 : (9223372036854775807 : Int).tdiv a = 9223372036854775807 / a := Int.tdiv_eq_ediv_of_nonneg (by decide)
    rw [e2, e3] at ht
    have HT := Lib.hid (outI_of ht w)
    by_cases h2 : -Int.tdiv 9223372036854775808 a ≤ b
    · have d2 : decide (wrap64 (-Int.tdiv 9223372036854775808 a) ≤ b) = true := by rw [e1]; simp [h2]
      by_cases h3 : b ≤ 9223372036854775807 / a
      · have d3 : decide (b ≤ 9223372036854775807 / a) = true := by simp [h3]
        have F := HT.out.1 ⟨h2, h3⟩
        clear ht e1 e2 e3 HT h2 h3
        go_wp2_with fail
        go_ret2
        exact F
      · have d3 : decide (b ≤ 9223372036854775807 / a) = false := by simp [h3]
        have F := HT.out.2 (fun q => h3 q.2)
        clear ht e1 e2 e3 HT h2 h3
        go_wp2_with fail
        go_ret2
        exact F
    · have d2 : decide (wrap64 (-Int.tdiv 9223372036854775808 a) ≤ b) = false := by rw [e1]; simp [h2]
      have F := HT.out.2 (fun q => h2 q.1)
      clear ht e1 e2 e3 HT h2
      go_wp2_with fail
      go_ret2
      exact F
  · have d1 : decide (0 < a) = false := by simp [h1]
    by_cases h0 : a = -1
    · subst h0
      have F : Hid (∀ e w', outI (0 - b) e w w' → outI (-1 * b) e w w') := fun e w' h => by
        have e1 : -1 * b = 0 - b := by omega
        rw [e1]
        exact h
      by_cases hi : inI (0 - b)
      · have M1 : Hid (∀ w1, Calls Tryz.prog 98 #[.int .i64 0, .int .i64 b] w1 fun e w' => e = .returned (.tuple #[.int .i64 (0 - b), .bool true]) ∧ Below w1.heap.size w1 w') := fun w1 => (MI.out w1).mono fun e w' h => by
          rcases h with ⟨⟨h1, h2⟩ | ⟨h1, h2⟩, hb⟩
          · exact ⟨h2, hb⟩
          · exact absurd hi h1
        have FF : Hid (∀ w', Below w.heap.size w w' → outI (-1 * b) (.returned (.tuple #[.int .i64 (-b), .bool true])) w w') := fun w' hb => by
          have e0 : -b = 0 - b := by omega
          rw [e0]
          exact F.out _ _ ⟨.inl ⟨hi, rfl⟩, hb⟩
        clear F MI hi
        go_wp2_with (refine (M1.out _).mono ?_; rintro e w1 ⟨rfl, hb⟩)
        go_ret2
        exact FF.out _ hb
      · have M1 : Hid (∀ w1, Calls Tryz.prog 98 #[.int .i64 0, .int .i64 b] w1 fun e w' => e = .returned (.tuple #[.int .i64 0, .bool false]) ∧ Below w1.heap.size w1 w') := fun w1 => (MI.out w1).mono fun e w' h => by
          rcases h with ⟨⟨h1, h2⟩ | ⟨h1, h2⟩, hb⟩
          · exact absurd h1 hi
          · exact ⟨h2, hb⟩
        have FF : Hid (∀ w', Below w.heap.size w w' → outI (-1 * b) (.returned (.tuple #[.int .i64 0, .bool false])) w w') := fun w' hb => F.out _ _ ⟨.inr ⟨hi, rfl⟩, hb⟩
        clear F MI hi
        go_wp2_with (refine (M1.out _).mono ?_; rintro e w1 ⟨rfl, hb⟩)
        go_ret2
        exact FF.out _ hb
    · have hm : (a == -1) = false := by rw [beq_eq_false_iff_ne]; exact h0
      by_cases h4 : a < 0
      · have d4 : decide (a < 0) = true := by simp [h4]
        have ha2 : a < -1 := by omega
        have hz : (a == 0) = false := by rw [beq_eq_false_iff_ne]; omega
        have ht := times_neg (b := b) h4
        have e1 : wrap64 (Int.tdiv 9223372036854775807 a) = Int.tdiv 9223372036854775807 a := by
          have := tdiv_neg_bounds (m := 9223372036854775807) (by decide) ha2
          exact wrap64_in _ (by omega)
        have e2 : (-9223372036854775808 : Int).tdiv a = -Int.tdiv 9223372036854775808 a := by rw [Int.neg_tdiv]
        have e3 : wrap64 (-Int.tdiv 9223372036854775808 a) = -Int.tdiv 9223372036854775808 a := by
          have := tdiv_neg_bounds (m := 9223372036854775808) (by decide) ha2
          exact wrap64_in _ (by omega)
        rw [e2] at ht
        have HT := Lib.hid (outI_of ht w)
        by_cases h2 : Int.tdiv 9223372036854775807 a ≤ b
        · have d2 : decide (wrap64 (Int.tdiv 9223372036854775807 a) ≤ b) = true := by rw [e1]; simp [h2]
          by_cases h3 : b ≤ -Int.tdiv 9223372036854775808 a
          · have d3 : decide (b ≤ wrap64 (-Int.tdiv 9223372036854775808 a)) = true := by rw [e3]; simp [h3]
            have F := HT.out.1 ⟨h2, h3⟩
            clear ht e1 e2 e3 HT h2 h3
            go_wp2_with fail
            go_ret2
            exact F
          · have d3 : decide (b ≤ wrap64 (-Int.tdiv 9223372036854775808 a)) = false := by rw [e3]; simp [h3]
            have F := HT.out.2 (fun q => h3 q.2)
            clear ht e1 e2 e3 HT h2 h3
            go_wp2_with fail
            go_ret2
            exact F
        · have d2 : decide (wrap64 (Int.tdiv 9223372036854775807 a) ≤ b) = false := by rw [e1]; simp [h2]
          have F := HT.out.2 (fun q => h2 q.1)
          clear ht e1 e2 e3 HT h2
          go_wp2_with fail
          go_ret2
          exact F
      · obtain rfl : a = 0 := by omega
        rw [Int.zero_mul]
        have F : outI 0 (.returned (.tuple #[.int .i64 0, .bool true])) w w := by
          exact ⟨.inl ⟨⟨by decide, by decide⟩, rfl⟩, Below.refl _ _⟩
        go_wp2_with fail
        go_ret2
        exact F

end Go.Proofs.YtclkinokmpcigaaGreatDoor
