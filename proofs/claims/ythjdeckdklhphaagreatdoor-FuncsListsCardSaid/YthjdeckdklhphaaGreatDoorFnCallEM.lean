/-
  Package funcs' Call, of a function that there is, whatever it answers.
-/
import Derived.Test.YthjdeckdklhphaaGreatDoorFnLaidM
import Derived.Test.YthjdeckdklhphaaGreatDoorVals
import Derived.Test.YthjdeckdklhphaaGreatDoorAwakeM
set_option linter.unusedVariables false
set_option linter.unusedSimpArgs false
namespace Go.Proofs.YthjdeckdklhphaaGreatDoor
open Go.RowKit

/-- What answer hands back: a value, and no error; or an error. -/
def AnsC (P : Array Value → Int → World → Prop) (e : Ending) (w w' : World) : Prop := ∃ k b n s la ll lc ma ml mc c, e = .returned (.tuple #[.agg (sixV k b n s la ll lc ma ml mc), .int .i64 c]) ∧ (c = 0 ∧ s.size ≤ 65536 ∧ P (sixV k b n s la ll lc ma ml mc) 0 w' ∨ c ≠ 0 ∧ P zeroV c w') ∧ Below w.heap.size w w'

set_option maxRecDepth 100000 in
set_option maxHeartbeats 1000000 in
theorem fCall_all (name : ByteArray) (k : Nat) (hk : k < 29) (he : (fnAt k).1 = name) (hn : ∀ i, i < k → (fnAt i).1 ≠ name) (sa : Option Addr) (len sc : Nat) (hlo : (fnAt k).2.1 ≤ (len : Int)) (hhi : (len : Int) ≤ (fnAt k).2.2)
    (P : Array Value → Int → World → Prop) (w : World) (mono : ∀ ds c w1 w2, w1.heap.size ≤ w2.heap.size → (∀ b, b ≠ w.heap.size → b < w1.heap.size → w2.heap[b]? = w1.heap[b]?) → P ds c w1 → P ds c w2) (hw : FnTab w)
    (H : ∀ w1, Below w.heap.size w w1 → w.heap.size < w1.heap.size → Calls Tryz.prog 16 #[.string name, .slice sa len sc] w1 fun e w' => AnsC P e w1 w') :
    Calls Tryz.prog 6 #[.string name, .slice sa len sc] w fun e w' => ∃ ds c, e = .returned (.tuple #[.agg ds, .int .i64 c]) ∧ P ds c w' ∧ Below w.heap.size w w' := by
  obtain ⟨dd, hu, hdd⟩ := Tryz.structV
  have DD := Lib.hid hdd
  have HU := Lib.hid hu
  clear hdd hu
  have hb1 := (Below.refl w.heap.size w).alloc (Nat.le_refl _) (.cells zeroV 28)
  have FI := Lib.hid (ffind_any name k hk he hn (w.alloc (.cells zeroV 28)) (hw.later hb1))
  have es : (w.alloc (.cells zeroV 28)).heap.size = w.heap.size + 1 := by simp
  have B1 := Lib.hid (Box6.new w zeroV 28)
  have T1 := Lib.hid (Thaw.new w zeroV 28)
  have MO := Lib.hid mono
  have HH := Lib.hid H
  have HB1 := Lib.hid hb1
  have ES := Lib.hid es
  have hlo' : decide ((len : Int) < (fnAt k).2.1) = false := by simp; omega
  have hhi' : decide ((fnAt k).2.2 < (len : Int)) = false := by simp; omega
  rw [fnRow] at FI
  clear hb1 es mono H hlo hhi he hn hw
  generalize (fnAt k).2.1 = lo at *
  generalize (fnAt k).2.2 = hi at *
  generalize (fnAt k).1 = nm at *
  go_enter Tryz.func6, Tryz.ntmps6
  go_upto_region 1 with fail
  generalize (w.alloc (.cells zeroV 28)) = v at *
  go_upto_region 6 with (go_at_call 15; refine FI.out.mono ?_; rintro e w1 ⟨rfl, hb⟩; have HB2 := Lib.hid hb; clear hb)
  have hv1 := HB1.out
  have hb3 : Below w.heap.size w (w1.alloc (.cells #[.string nm, .int .i64 lo, .int .i64 hi] 43)) := (bstep HB1.out HB2.out HB1.out.size).alloc ((bstep HB1.out HB2.out HB1.out.size).size) _
  have HB3 := Lib.hid hb3
  have HBV : Hid (Below v.heap.size v (w1.alloc (.cells #[.string nm, .int .i64 lo, .int .i64 hi] 43))) := HB2.out.alloc HB2.out.size _
  have HS3 : Hid (w.heap.size < (w1.alloc (.cells #[.string nm, .int .i64 lo, .int .i64 hi] 43)).heap.size) := by
    have h1 := HBV.out.size
    have h2 := ES.out
    show _ < _
    omega
  clear hv1 hb3
  go_upto_region 7 with (go_at_call 16; refine (HH.out _ HB3.out HS3.out).mono ?_; rintro e w2 ⟨k0, b0, n0, s0, la, ll, lc, ma, ml, mc, c, rfl, hc, hb⟩; have HB4 := Lib.hid hb; have HC := Lib.hid hc; clear hb hc)
  have hba : Below v.heap.size v (w2.alloc (.cells (sixV k0 b0 n0 s0 la ll lc ma ml mc) 28)) := (bstep HBV.out HB4.out HBV.out.size).alloc ((bstep HBV.out HB4.out HBV.out.size).size) _
  have hvr : w.heap.size < v.heap.size := by rw [ES.out]; omega
  obtain ⟨c0, c1, c2, c3, c4, c5⟩ := (B1.out.later hba hvr).six
  obtain ⟨f0, f1, f2, f3, f4, f5⟩ := (T1.out.later hba hvr).six
  have hca := (B1.out.later hba hvr).cells rfl
  have HCA := Lib.hid hca
  have hbz : Below w.heap.size w (w2.alloc (.cells (sixV k0 b0 n0 s0 la ll lc ma ml mc) 28)) := bstep HB1.out hba HB1.out.size
  have HBZ := Lib.hid hbz
  have hPa : ∀ ds c', P ds c' w2 → ∀ vs : List Value, P ds c' (setRow (w2.alloc (.cells (sixV k0 b0 n0 s0 la ll lc ma ml mc) 28)) w.heap.size 0 vs) := fun ds c' hP vs => MO.out ds c' w2 _ (by rw [setRow_size]; simp) (fun b hb hlt => (setRow_heap _ _ _ _ _ hb).trans (Below.heap_alloc _ _ _ hlt)) hP
  have HPA := Lib.hid hPa
  clear hba hca hbz hPa
  rcases HC.out with ⟨rfl, hs, hP⟩ | ⟨hc, hP⟩
  · have hs' : decide (65536 < (s0.size : Int)) = false := by simp; omega
    have HP := Lib.hid hP
    clear HC hP
    go_wp2_with fail
    exact ret_cells_tmp (w2.alloc (.cells (sixV k0 b0 n0 s0 la ll lc ma ml mc) 28)) w.heap.size (sixV k0 b0 n0 s0 la ll lc ma ml mc).toList rfl Tryz.results6 rfl rfl DD.out HU.out Tryz.sizeV HCA.out ⟨_, _, rfl, HPA.out _ _ HP.out _, setRow_below _ (Nat.le_refl _) _ _ _ HBZ.out⟩
  · have hc' : (c == 0) = false := by rw [beq_eq_false_iff_ne]; exact hc
    have hc2 : (c != 0) = true := by rw [bne_iff_ne]; exact hc
    have HP := Lib.hid hP
    clear HC hP hc
    go_wp2_with fail
    exact ret_cells_tmp (w2.alloc (.cells (sixV k0 b0 n0 s0 la ll lc ma ml mc) 28)) w.heap.size zeroV.toList rfl Tryz.results6 rfl rfl DD.out HU.out Tryz.sizeV HCA.out ⟨_, _, rfl, HPA.out _ _ HP.out _, setRow_below _ (Nat.le_refl _) _ _ _ HBZ.out⟩

end Go.Proofs.YthjdeckdklhphaaGreatDoor

/-
  What whole numbers come to, and where they are too far out: pure.
-/
set_option linter.unusedVariables false
set_option linter.unusedSimpArgs false
namespace Go.Proofs.YthjdeckdklhphaaGreatDoor
/-- Within the bounds of int64. -/
def inI (n : Int) : Prop := -9223372036854775808 ≤ n ∧ n ≤ 9223372036854775807
theorem tdiv_pos_le {m a b : Int} (ha : 0 < a) (hm : 0 ≤ m) : b ≤ m.tdiv a ↔ a * b ≤ m := by
  rw [Int.tdiv_eq_ediv_of_nonneg hm, Int.le_ediv_iff_mul_le ha, Int.mul_comm]
theorem tdiv_neg_le {m a b : Int} (ha : 0 < a) (hm : 0 ≤ m) : (-m).tdiv a ≤ b ↔ -m ≤ a * b := by
  rw [Int.neg_tdiv]
  have := tdiv_pos_le (b := -b) ha hm
  rw [Int.mul_neg] at this
  omega
/-- a > 0 -/
theorem times_pos {a b : Int} (ha : 0 < a) : ((-9223372036854775808 : Int).tdiv a ≤ b ∧ b ≤ (9223372036854775807 : Int).tdiv a) ↔ inI (a * b) := by
  rw [tdiv_pos_le ha (by decide)]
  have := tdiv_neg_le (m := 9223372036854775808) (b := b) ha (by decide)
  rw [this]
  rfl
theorem times_neg {a b : Int} (ha : a < 0) : ((9223372036854775807 : Int).tdiv a ≤ b ∧ b ≤ (-9223372036854775808 : Int).tdiv a) ↔ inI (a * b) := by
  have h0 : 0 < -a := by omega
  have e1 : (9223372036854775807 : Int).tdiv a = -((9223372036854775807 : Int).tdiv (-a)) := by rw [Int.tdiv_neg]; omega
  have e2 : (-9223372036854775808 : Int).tdiv a = (9223372036854775808 : Int).tdiv (-a) := by rw [Int.tdiv_neg, Int.neg_tdiv]
  rw [e1, e2]
  have h1 := tdiv_pos_le (m := 9223372036854775807) (b := -b) h0 (by decide)
  have h2 := tdiv_pos_le (m := 9223372036854775808) (b := b) h0 (by decide)
  rw [Int.neg_mul_neg] at h1
  rw [Int.neg_mul] at h2
  unfold inI
  omega
end Go.Proofs.YthjdeckdklhphaaGreatDoor

/-
  Package funcs' plus, minus and times.
-/
set_option linter.unusedVariables false
set_option linter.unusedSimpArgs false
namespace Go.Proofs.YthjdeckdklhphaaGreatDoor
open Go.RowKit

theorem inI_def (n : Int) : inI n ↔ -9223372036854775808 ≤ n ∧ n ≤ 9223372036854775807 := Iff.rfl
/-- What a number comes to: it, or that it is too far out. -/
noncomputable def outI (n : Int) (e : Ending) (w w' : World) : Prop := (inI n ∧ e = .returned (.tuple #[.int .i64 n, .bool true]) ∨ ¬ inI n ∧ e = .returned (.tuple #[.int .i64 0, .bool false])) ∧ Below w.heap.size w w'

set_option maxRecDepth 100000 in
theorem fplus_any (a b : Int) (ha : inI a) (hb : inI b) (w : World) : Calls Tryz.prog 98 #[.int .i64 a, .int .i64 b] w fun e w' => outI (a + b) e w w' := by
  go_enter Tryz.func98, Tryz.ntmps98
  obtain ⟨ha0, ha1⟩ := ha
  obtain ⟨hb0, hb1⟩ := hb
  by_cases h1 : b < 0
  · have d1 : decide (b < 0) = true := by simp [h1]
    by_cases h2 : a < -9223372036854775808 - b
    · have d2 : decide (a < -9223372036854775808 - b) = true := by simp only [decide_eq_true_eq]; omega
      go_wp2_with fail
      go_ret2
      exact ⟨.inr ⟨fun h => by unfold inI at h; omega, rfl⟩, Below.refl _ _⟩
    · have d2 : decide (a < -9223372036854775808 - b) = false := by simp only [decide_eq_false_iff_not]; omega
      have d3 : decide (0 < b) = false := by simp only [decide_eq_false_iff_not]; omega
      go_wp2_with fail
      go_ret2
      exact ⟨.inl ⟨⟨by omega, by omega⟩, rfl⟩, Below.refl _ _⟩
  · have d1 : decide (b < 0) = false := by simp [h1]
    by_cases h3 : 0 < b
    · have d3 : decide (0 < b) = true := by simp [h3]
      by_cases h2 : 9223372036854775807 - b < a
      · have d2 : decide (9223372036854775807 - b < a) = true := by simp only [decide_eq_true_eq]; omega
        go_wp2_with fail
        go_ret2
        exact ⟨.inr ⟨fun h => by unfold inI at h; omega, rfl⟩, Below.refl _ _⟩
      · have d2 : decide (9223372036854775807 - b < a) = false := by simp only [decide_eq_false_iff_not]; omega
        go_wp2_with fail
        go_ret2
        exact ⟨.inl ⟨⟨by omega, by omega⟩, rfl⟩, Below.refl _ _⟩
    · have d3 : decide (0 < b) = false := by simp only [decide_eq_false_iff_not]; omega
      go_wp2_with fail
      go_ret2
      exact ⟨.inl ⟨⟨by omega, by omega⟩, rfl⟩, Below.refl _ _⟩

set_option maxRecDepth 100000 in
theorem fminus_any (a b : Int) (ha : inI a) (hb : inI b) (w : World) : Calls Tryz.prog 99 #[.int .i64 a, .int .i64 b] w fun e w' => outI (a - b) e w w' := by
  go_enter Tryz.func99, Tryz.ntmps99
  obtain ⟨ha0, ha1⟩ := ha
  obtain ⟨hb0, hb1⟩ := hb
  by_cases h1 : b < 0
  · have d1 : decide (b < 0) = true := by simp [h1]
    by_cases h2 : 9223372036854775807 + b < a
    · have d2 : decide (9223372036854775807 + b < a) = true := by simp only [decide_eq_true_eq]; omega
      go_wp2_with fail
      go_ret2
      exact ⟨.inr ⟨fun h => by unfold inI at h; omega, rfl⟩, Below.refl _ _⟩
    · have d2 : decide (9223372036854775807 + b < a) = false := by simp only [decide_eq_false_iff_not]; omega
      have d3 : decide (0 < b) = false := by simp only [decide_eq_false_iff_not]; omega
      go_wp2_with fail
      go_ret2
      exact ⟨.inl ⟨⟨by omega, by omega⟩, rfl⟩, Below.refl _ _⟩
  · have d1 : decide (b < 0) = false := by simp [h1]
    by_cases h3 : 0 < b
    · have d3 : decide (0 < b) = true := by simp [h3]
      by_cases h2 : a < -9223372036854775808 + b
      · have d2 : decide (a < -9223372036854775808 + b) = true := by simp only [decide_eq_true_eq]; omega
        go_wp2_with fail
        go_ret2
        exact ⟨.inr ⟨fun h => by unfold inI at h; omega, rfl⟩, Below.refl _ _⟩
      · have d2 : decide (a < -9223372036854775808 + b) = false := by simp only [decide_eq_false_iff_not]; omega
        go_wp2_with fail
        go_ret2
        exact ⟨.inl ⟨⟨by omega, by omega⟩, rfl⟩, Below.refl _ _⟩
    · have d3 : decide (0 < b) = false := by simp only [decide_eq_false_iff_not]; omega
      go_wp2_with fail
      go_ret2
      exact ⟨.inl ⟨⟨by omega, by omega⟩, rfl⟩, Below.refl _ _⟩

theorem wrap64_in (n : Int) (h : -9223372036854775808 ≤ n ∧ n ≤ 9223372036854775807) : wrap64 n = n := by unfold wrap64; omega
theorem outI_of {n : Int} {ok : Prop} [Decidable ok] (h : ok ↔ inI n) (w : World) :
    (ok → outI n (.returned (.tuple #[.int .i64 (wrap64 n), .bool true])) w w) ∧ (¬ ok → outI n (.returned (.tuple #[.int .i64 0, .bool false])) w w) :=
  ⟨fun q => ⟨.inl ⟨h.1 q, by rw [wrap64_in n (h.1 q)]⟩, Below.refl _ _⟩, fun q => ⟨.inr ⟨fun x => q (h.2 x), rfl⟩, Below.refl _ _⟩⟩
theorem tdiv_bounds {m a : Int} (hm : 0 ≤ m) (ha : 0 < a) : 0 ≤ m.tdiv a ∧ m.tdiv a ≤ m := by
  rw [Int.tdiv_eq_ediv_of_nonneg hm]
  exact ⟨Int.ediv_nonneg hm (by omega), Int.ediv_le_self a hm⟩
theorem tdiv_neg_bounds {m a : Int} (hm : 0 ≤ m) (ha : a < -1) : -m ≤ 2 * m.tdiv a ∧ m.tdiv a ≤ 0 := by
  have e : m.tdiv a = -(m.tdiv (-a)) := by rw [Int.tdiv_neg]; omega
  rw [e, Int.tdiv_eq_ediv_of_nonneg hm]
  have h0 := Int.ediv_nonneg hm (show 0 ≤ -a by omega)
  have h1 : m / (-a) * (-a) ≤ m := Int.ediv_mul_le m (by omega)
  have h2 : m / (-a) * 2 ≤ m / (-a) * (-a) := Int.mul_le_mul_of_nonneg_left (by omega) h0
  exact ⟨by omega, by omega⟩

set_option maxRecDepth 100000 in
theorem ftimes_any (a b : Int) (ha : inI a) (hb : inI b) (w : World) : Calls Tryz.prog 100 #[.int .i64 a, .int .i64 b] w fun e w' => outI (a * b) e w w' := by
  have MI := Lib.hid (fun w1 => fminus_any 0 b ⟨by decide, by decide⟩ hb w1)
  go_enter Tryz.func100, Tryz.ntmps100
  obtain ⟨ha0, ha1⟩ := ha
  obtain ⟨hb0, hb1⟩ := hb
  by_cases h1 : 0 < a
  · have d1 : decide (0 < a) = true := by simp [h1]
    have hz : (a == 0) = false := by rw [beq_eq_false_iff_ne]; omega
    have hm : (a == -1) = false := by rw [beq_eq_false_iff_ne]; omega
    have ht := times_pos (b := b) h1
    have e1 : wrap64 (-Int.tdiv 9223372036854775808 a) = -Int.tdiv 9223372036854775808 a := by
      have := tdiv_bounds (m := 9223372036854775808) (by decide) h1
      exact wrap64_in _ (by omega)
    have e2 : (-9223372036854775808 : Int).tdiv a = -Int.tdiv 9223372036854775808 a := by rw [Int.neg_tdiv]
    have e3 : (9223372036854775807 : Int).tdiv a = 9223372036854775807 / a := Int.tdiv_eq_ediv_of_nonneg (by decide)
    rw [e2, e3] at ht
    have HT := Lib.hid (outI_of ht w)
    by_cases h2 : -Int.tdiv 9223372036854775808 a ≤ b
    · have d2 : decide (wrap64 (-Int.tdiv 9223372036854775808 a) ≤ b) = true := by rw [e1]; simp [h2]
      by_cases h3 : b ≤ 9223372036854775807 / a
      · have d3 : decide (b ≤ 9223372036854775807 / a) = true := by simp [h3]
        have F := HT.out.1 ⟨h2, h3⟩
        clear ht e1 e2 e3 HT h2 h3
        go_wp2_with fail
        go_ret2
        exact F
      · have d3 : decide (b ≤ 9223372036854775807 / a) = false := by simp [h3]
        have F := HT.out.2 (fun q => h3 q.2)
        clear ht e1 e2 e3 HT h2 h3
        go_wp2_with fail
        go_ret2
        exact F
    · have d2 : decide (wrap64 (-Int.tdiv 9223372036854775808 a) ≤ b) = false := by rw [e1]; simp [h2]
      have F := HT.out.2 (fun q => h2 q.1)
      clear ht e1 e2 e3 HT h2
      go_wp2_with fail
      go_ret2
      exact F
  · have d1 : decide (0 < a) = false := by simp [h1]
    by_cases h0 : a = -1
    · subst h0
      have F : Hid (∀ e w', outI (0 - b) e w w' → outI (-1 * b) e w w') := fun e w' h => by
        have e1 : -1 * b = 0 - b := by omega
        rw [e1]
        exact h
      by_cases hi : inI (0 - b)
      · have M1 : Hid (∀ w1, Calls Tryz.prog 99 #[.int .i64 0, .int .i64 b] w1 fun e w' => e = .returned (.tuple #[.int .i64 (0 - b), .bool true]) ∧ Below w1.heap.size w1 w') := fun w1 => (MI.out w1).mono fun e w' h => by
          rcases h with ⟨⟨h1, h2⟩ | ⟨h1, h2⟩, hb⟩
          · exact ⟨h2, hb⟩
          · exact absurd hi h1
        have FF : Hid (∀ w', Below w.heap.size w w' → outI (-1 * b) (.returned (.tuple #[.int .i64 (-b), .bool true])) w w') := fun w' hb => by
          have e0 : -b = 0 - b := by omega
          rw [e0]
          exact F.out _ _ ⟨.inl ⟨hi, rfl⟩, hb⟩
        clear F MI hi
        go_wp2_with (refine (M1.out _).mono ?_; rintro e w1 ⟨rfl, hb⟩)
        go_ret2
        exact FF.out _ hb
      · have M1 : Hid (∀ w1, Calls Tryz.prog 99 #[.int .i64 0, .int .i64 b] w1 fun e w' => e = .returned (.tuple #[.int .i64 0, .bool false]) ∧ Below w1.heap.size w1 w') := fun w1 => (MI.out w1).mono fun e w' h => by
          rcases h with ⟨⟨h1, h2⟩ | ⟨h1, h2⟩, hb⟩
          · exact absurd h1 hi
          · exact ⟨h2, hb⟩
        have FF : Hid (∀ w', Below w.heap.size w w' → outI (-1 * b) (.returned (.tuple #[.int .i64 0, .bool false])) w w') := fun w' hb => F.out _ _ ⟨.inr ⟨hi, rfl⟩, hb⟩
        clear F MI hi
        go_wp2_with (refine (M1.out _).mono ?_; rintro e w1 ⟨rfl, hb⟩)
        go_ret2
        exact FF.out _ hb
    · have hm : (a == -1) = false := by rw [beq_eq_false_iff_ne]; exact h0
      by_cases h4 : a < 0
      · have d4 : decide (a < 0) = true := by simp [h4]
        have ha2 : a < -1 := by omega
        have hz : (a == 0) = false := by rw [beq_eq_false_iff_ne]; omega
        have ht := times_neg (b := b) h4
        have e1 : wrap64 (Int.tdiv 9223372036854775807 a) = Int.tdiv 9223372036854775807 a := by
          have := tdiv_neg_bounds (m := 9223372036854775807) (by decide) ha2
          exact wrap64_in _ (by omega)
        have e2 : (-9223372036854775808 : Int).tdiv a = -Int.tdiv 9223372036854775808 a := by rw [Int.neg_tdiv]
        have e3 : wrap64 (-Int.tdiv 9223372036854775808 a) = -Int.tdiv 9223372036854775808 a := by
          have := tdiv_neg_bounds (m := 9223372036854775808) (by decide) ha2
          exact wrap64_in _ (by omega)
        rw [e2] at ht
        have HT := Lib.hid (outI_of ht w)
        by_cases h2 : Int.tdiv 9223372036854775807 a ≤ b
        · have d2 : decide (wrap64 (Int.tdiv 9223372036854775807 a) ≤ b) = true := by rw [e1]; simp [h2]
          by_cases h3 : b ≤ -Int.tdiv 9223372036854775808 a
          · have d3 : decide (b ≤ wrap64 (-Int.tdiv 9223372036854775808 a)) = true := by rw [e3]; simp [h3]
            have F := HT.out.1 ⟨h2, h3⟩
            clear ht e1 e2 e3 HT h2 h3
            go_wp2_with fail
            go_ret2
            exact F
          · have d3 : decide (b ≤ wrap64 (-Int.tdiv 9223372036854775808 a)) = false := by rw [e3]; simp [h3]
            have F := HT.out.2 (fun q => h3 q.2)
            clear ht e1 e2 e3 HT h2 h3
            go_wp2_with fail
            go_ret2
            exact F
        · have d2 : decide (wrap64 (Int.tdiv 9223372036854775807 a) ≤ b) = false := by rw [e1]; simp [h2]
          have F := HT.out.2 (fun q => h2 q.1)
          clear ht e1 e2 e3 HT h2
          go_wp2_with fail
          go_ret2
          exact F
      · obtain rfl : a = 0 := by omega
        rw [Int.zero_mul]
        have F : outI 0 (.returned (.tuple #[.int .i64 0, .bool true])) w w := by
          exact ⟨.inl ⟨⟨by decide, by decide⟩, rfl⟩, Below.refl _ _⟩
        go_wp2_with fail
        go_ret2
        exact F

end Go.Proofs.YthjdeckdklhphaaGreatDoor

/-
  Package funcs' outcome and reckoned.
-/
set_option linter.unusedVariables false
set_option linter.unusedSimpArgs false
namespace Go.Proofs.YthjdeckdklhphaaGreatDoor
open Go.RowKit

theorem outI_yes {n : Int} {f : FuncId} {args : Array Value} {w : World} (hi : inI n) (h : Calls Tryz.prog f args w fun e w' => outI n e w w') : Calls Tryz.prog f args w fun e w' => e = .returned (.tuple #[.int .i64 n, .bool true]) ∧ Below w.heap.size w w' := h.mono fun e w' h => by
  rcases h with ⟨⟨h1, h2⟩ | ⟨h1, h2⟩, hb⟩
  · exact ⟨h2, hb⟩
  · exact absurd hi h1
theorem outI_no {n : Int} {f : FuncId} {args : Array Value} {w : World} (hi : ¬ inI n) (h : Calls Tryz.prog f args w fun e w' => outI n e w w') : Calls Tryz.prog f args w fun e w' => e = .returned (.tuple #[.int .i64 0, .bool false]) ∧ Below w.heap.size w w' := h.mono fun e w' h => by
  rcases h with ⟨⟨h1, h2⟩ | ⟨h1, h2⟩, hb⟩
  · exact absurd h1 hi
  · exact ⟨h2, hb⟩
/-- A whole number's cells. -/
abbrev cI (n : Int) : Array Value := #[.int .i64 2, .bool false, .int .i64 n, .string ⟨#[]⟩, .slice none 0 0, .slice none 0 0]
/-- What reckoning hands back: the number, or that it is too far out. -/
def recI (n : Int) (e : Ending) (w w' : World) : Prop := (inI n ∧ e = .returned (.tuple #[.agg (cI n), .int .i64 0]) ∨ ¬ inI n ∧ e = .returned (.tuple #[.agg zeroV, .int .i64 9])) ∧ Below w.heap.size w w'

set_option maxRecDepth 100000 in
theorem foutcome_add (a b : Int) (ha : inI a) (hb : inI b) (w : World) : Calls Tryz.prog 57 #[.string ⟨#[97, 100, 100]⟩, .int .i64 a, .int .i64 b] w fun e w' => outI (a + b) e w w' := by
  by_cases hi : inI (a + b)
  · have P1 := Lib.hid (fun w1 => outI_yes hi (fplus_any a b ha hb w1))
    have HI := Lib.hid hi
    clear hi
    go_enter Tryz.func57, Tryz.ntmps57
    go_wp2_with (refine (P1.out _).mono ?_; rintro e w1 ⟨rfl, hb⟩)
    go_ret2
    exact ⟨.inl ⟨HI.out, rfl⟩, hb⟩
  · have P1 := Lib.hid (fun w1 => outI_no hi (fplus_any a b ha hb w1))
    have HI := Lib.hid hi
    clear hi
    go_enter Tryz.func57, Tryz.ntmps57
    go_wp2_with (refine (P1.out _).mono ?_; rintro e w1 ⟨rfl, hb⟩)
    go_ret2
    exact ⟨.inr ⟨HI.out, rfl⟩, hb⟩

set_option maxRecDepth 100000 in
theorem foutcome_sub (a b : Int) (ha : inI a) (hb : inI b) (w : World) : Calls Tryz.prog 57 #[.string ⟨#[115, 117, 98]⟩, .int .i64 a, .int .i64 b] w fun e w' => outI (a - b) e w w' := by
  by_cases hi : inI (a - b)
  · have P1 := Lib.hid (fun w1 => outI_yes hi (fminus_any a b ha hb w1))
    have HI := Lib.hid hi
    clear hi
    go_enter Tryz.func57, Tryz.ntmps57
    go_wp2_with (refine (P1.out _).mono ?_; rintro e w1 ⟨rfl, hb⟩)
    go_ret2
    exact ⟨.inl ⟨HI.out, rfl⟩, hb⟩
  · have P1 := Lib.hid (fun w1 => outI_no hi (fminus_any a b ha hb w1))
    have HI := Lib.hid hi
    clear hi
    go_enter Tryz.func57, Tryz.ntmps57
    go_wp2_with (refine (P1.out _).mono ?_; rintro e w1 ⟨rfl, hb⟩)
    go_ret2
    exact ⟨.inr ⟨HI.out, rfl⟩, hb⟩

set_option maxRecDepth 100000 in
theorem foutcome_mul (a b : Int) (ha : inI a) (hb : inI b) (w : World) : Calls Tryz.prog 57 #[.string ⟨#[109, 117, 108]⟩, .int .i64 a, .int .i64 b] w fun e w' => outI (a * b) e w w' := by
  by_cases hi : inI (a * b)
  · have P1 := Lib.hid (fun w1 => outI_yes hi (ftimes_any a b ha hb w1))
    have HI := Lib.hid hi
    clear hi
    go_enter Tryz.func57, Tryz.ntmps57
    go_wp2_with (refine (P1.out _).mono ?_; rintro e w1 ⟨rfl, hb⟩)
    go_ret2
    exact ⟨.inl ⟨HI.out, rfl⟩, hb⟩
  · have P1 := Lib.hid (fun w1 => outI_no hi (ftimes_any a b ha hb w1))
    have HI := Lib.hid hi
    clear hi
    go_enter Tryz.func57, Tryz.ntmps57
    go_wp2_with (refine (P1.out _).mono ?_; rintro e w1 ⟨rfl, hb⟩)
    go_ret2
    exact ⟨.inr ⟨HI.out, rfl⟩, hb⟩

set_option maxRecDepth 100000 in
theorem freckoned_any (name : ByteArray) (a b n : Int) (hO : ∀ w1, Calls Tryz.prog 57 #[.string name, .int .i64 a, .int .i64 b] w1 fun e w' => outI n e w1 w') (w : World) :
    Calls Tryz.prog 28 #[.string name, .agg (cI a), .agg (cI b)] w fun e w' => recI n e w w' := by
  obtain ⟨dd, hu, hdd⟩ := Tryz.structV
  have DD := Lib.hid hdd
  have HU := Lib.hid hu
  clear hdd hu
  by_cases hi : inI n
  · have P1 := Lib.hid (fun w1 => outI_yes hi (hO w1))
    have HI := Lib.hid hi
    clear hi hO
    go_enter Tryz.func28, Tryz.ntmps28
    have hb3 : Below w.heap.size w (((w.alloc (.cells (cI a) 28)).alloc (.cells (cI b) 28)).alloc (.cells zeroV 28)) := (((Below.refl _ _).alloc (Nat.le_refl _) _).alloc (by simp) _).alloc (by simp; omega) _
    have b3 := Box6.new ((w.alloc (.cells (cI a) 28)).alloc (.cells (cI b) 28)) zeroV 28
    have t3 := Thaw.new ((w.alloc (.cells (cI a) 28)).alloc (.cells (cI b) 28)) zeroV 28
    have e3 : ((w.alloc (.cells (cI a) 28)).alloc (.cells (cI b) 28)).heap.size = w.heap.size + 1 + 1 := by simp
    have es : (((w.alloc (.cells (cI a) 28)).alloc (.cells (cI b) 28)).alloc (.cells zeroV 28)).heap.size = w.heap.size + 1 + 1 + 1 := by simp
    rw [e3] at b3 t3
    have HB3 := Lib.hid hb3
    have B3 := Lib.hid b3
    have T3 := Lib.hid t3
    have ES := Lib.hid es
    clear hb3 b3 t3 e3 es
    go_wp2_with (first
      | (go_at_call 57
         refine (P1.out _).mono ?_
         rintro e w1 ⟨rfl, hb⟩
         have HB1 := Lib.hid hb
         clear hb)
      | (go_at_call 7
         refine (tInt_any n _).mono ?_
         rintro e w2 ⟨rfl, hb⟩
         have HB2 := Lib.hid (HB1.out.trans (hb.mono HB1.out.size))
         obtain ⟨c0, c1, c2, c3, c4, c5⟩ := (B3.out.later HB2.out (by rw [ES.out]; omega)).six
         obtain ⟨f0, f1, f2, f3, f4, f5⟩ := (T3.out.later HB2.out (by rw [ES.out]; omega)).six
         clear hb))
    exact ret_cells_tmp w2 (w.heap.size + 1 + 1) (cI n).toList rfl Tryz.results28 rfl rfl DD.out HU.out Tryz.sizeV ((B3.out.later HB2.out (by rw [ES.out]; omega)).cells rfl) ⟨.inl ⟨HI.out, rfl⟩, setRow_below _ (by omega) _ _ _ (HB3.out.trans (HB2.out.mono HB3.out.size))⟩
  · have P1 := Lib.hid (fun w1 => outI_no hi (hO w1))
    have HI := Lib.hid hi
    clear hi hO
    go_enter Tryz.func28, Tryz.ntmps28
    have hb3 : Below w.heap.size w (((w.alloc (.cells (cI a) 28)).alloc (.cells (cI b) 28)).alloc (.cells zeroV 28)) := (((Below.refl _ _).alloc (Nat.le_refl _) _).alloc (by simp) _).alloc (by simp; omega) _
    have b3 := Box6.new ((w.alloc (.cells (cI a) 28)).alloc (.cells (cI b) 28)) zeroV 28
    have t3 := Thaw.new ((w.alloc (.cells (cI a) 28)).alloc (.cells (cI b) 28)) zeroV 28
    have e3 : ((w.alloc (.cells (cI a) 28)).alloc (.cells (cI b) 28)).heap.size = w.heap.size + 1 + 1 := by simp
    have es : (((w.alloc (.cells (cI a) 28)).alloc (.cells (cI b) 28)).alloc (.cells zeroV 28)).heap.size = w.heap.size + 1 + 1 + 1 := by simp
    rw [e3] at b3 t3
    have HB3 := Lib.hid hb3
    have B3 := Lib.hid b3
    have T3 := Lib.hid t3
    have ES := Lib.hid es
    clear hb3 b3 t3 e3 es
    go_wp2_with (go_at_call 57
                 refine (P1.out _).mono ?_
                 rintro e w1 ⟨rfl, hb⟩
                 have HB1 := Lib.hid hb
                 obtain ⟨c0, c1, c2, c3, c4, c5⟩ := (B3.out.later HB1.out (by rw [ES.out]; omega)).six
                 obtain ⟨f0, f1, f2, f3, f4, f5⟩ := (T3.out.later HB1.out (by rw [ES.out]; omega)).six
                 clear hb)
    exact ret_cells_tmp w1 (w.heap.size + 1 + 1) zeroV.toList rfl Tryz.results28 rfl rfl DD.out HU.out Tryz.sizeV ((B3.out.later HB1.out (by rw [ES.out]; omega)).cells rfl) ⟨.inr ⟨HI.out, rfl⟩, setRow_below _ (by omega) _ _ _ (HB3.out.trans (HB1.out.mono HB3.out.size))⟩

end Go.Proofs.YthjdeckdklhphaaGreatDoor
