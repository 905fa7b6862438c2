/-
  FuncsSums: the law's contract.
-/
import Derived.Test.YtkonkjaabkmecaaGreatDoorFnAwake
set_option linter.unusedVariables false
set_option linter.unusedSimpArgs false
namespace Go.Proofs.YtkonkjaabkmecaaGreatDoor
open Go.RowKit

/-- What the statement's own function hands back. -/
def sumI (n : Int) (e : Ending) (w w' : World) : Prop := (inI n ∧ e = .returned (.tuple #[.int .i64 n, .int .i64 0]) ∨ ¬ inI n ∧ e = .returned (.tuple #[.int .i64 0, .int .i64 9])) ∧ Below w.heap.size w w'

set_option maxRecDepth 100000 in
set_option maxHeartbeats 1000000 in
theorem sums1_any (name : ByteArray) (a b n : Int) (HC : ∀ (w : World) (sb : Nat), FnTab w → TwoV w sb (.int .i64 2) (.bool false) (.int .i64 a) (.string ⟨#[]⟩) (.slice none 0 0) (.slice none 0 0) (.int .i64 2) (.bool false) (.int .i64 b) (.string ⟨#[]⟩) (.slice none 0 0) (.slice none 0 0) → Calls Tryz.prog 12 #[.string name, .slice (some ⟨sb, 0, none⟩) 2 2] w fun e w' => recI n e w w') (w : World) (hw : FnTab w) :
    Calls Tryz.prog 21 #[.string name, .int .i64 a, .int .i64 b] w fun e w' => sumI n e w w' := by
  have HW := Lib.hid hw
  by_cases hi : inI n
  · have H1 := Lib.hid (fun w sb h1 h2 => recI_yes hi (HC w sb h1 h2))
    have HI := Lib.hid hi
    clear hw hi HC
    go_enter Tryz.func21, Tryz.ntmps21
    go_wp2_with (first
      | (with_reducible refine (tInt_any a w).mono ?_; rintro e w1 ⟨rfl, hb⟩; have HB1 := Lib.hid hb; clear hb)
      | (with_reducible refine (tInt_any b w1).mono ?_; rintro e w2 ⟨rfl, hb⟩; have HB2 := Lib.hid (bstep HB1.out hb HB1.out.size); clear hb)
      | (go_at_call 12
         have hb3 := HB2.out.alloc HB2.out.size (.cells #[.int .i64 2, .bool false, .int .i64 a, .string ⟨#[]⟩, .slice none 0 0, .slice none 0 0, .int .i64 2, .bool false, .int .i64 b, .string ⟨#[]⟩, .slice none 0 0, .slice none 0 0] 27)
         refine (H1.out _ _ (HW.out.later hb3) (TwoV.new w2 _ _ _ _ _ _ _ _ _ _ _ _ 27)).mono ?_
         rintro e w3 ⟨rfl, hb⟩
         have HB3 := Lib.hid (bstep hb3 hb hb3.size)
         clear hb hb3))
    go_ret2
    exact ⟨.inl ⟨HI.out, rfl⟩, HB3.out.alloc HB3.out.size _⟩
  · have H1 := Lib.hid (fun w sb h1 h2 => recI_no hi (HC w sb h1 h2))
    have HI := Lib.hid hi
    clear hw hi HC
    go_enter Tryz.func21, Tryz.ntmps21
    go_wp2_with (first
      | (with_reducible refine (tInt_any a w).mono ?_; rintro e w1 ⟨rfl, hb⟩; have HB1 := Lib.hid hb; clear hb)
      | (with_reducible refine (tInt_any b w1).mono ?_; rintro e w2 ⟨rfl, hb⟩; have HB2 := Lib.hid (bstep HB1.out hb HB1.out.size); clear hb)
      | (go_at_call 12
         have hb3 := HB2.out.alloc HB2.out.size (.cells #[.int .i64 2, .bool false, .int .i64 a, .string ⟨#[]⟩, .slice none 0 0, .slice none 0 0, .int .i64 2, .bool false, .int .i64 b, .string ⟨#[]⟩, .slice none 0 0, .slice none 0 0] 27)
         refine (H1.out _ _ (HW.out.later hb3) (TwoV.new w2 _ _ _ _ _ _ _ _ _ _ _ _ 27)).mono ?_
         rintro e w3 ⟨rfl, hb⟩
         have HB3 := Lib.hid (bstep hb3 hb hb3.size)
         clear hb hb3))
    go_ret2
    exact ⟨.inr ⟨HI.out, rfl⟩, HB3.out.alloc HB3.out.size _⟩
theorem sums_add (a b : Int) (ha : inI a) (hb : inI b) (w : World) (hw : FnTab w) : Calls Tryz.prog 21 #[.string ⟨#[97, 100, 100]⟩, .int .i64 a, .int .i64 b] w fun e w' => sumI (a + b) e w w' :=
  sums1_any _ a b (a + b) (fun w sb hw h => calls_rec (k := 0) (by decide) rfl rfl rfl w hw h fun w1 h1 => fanswer_add a b (a + b) (fun w2 => foutcome_add a b ha hb w2) w1 sb h1) w hw
theorem sums_sub (a b : Int) (ha : inI a) (hb : inI b) (w : World) (hw : FnTab w) : Calls Tryz.prog 21 #[.string ⟨#[115, 117, 98]⟩, .int .i64 a, .int .i64 b] w fun e w' => sumI (a - b) e w w' :=
  sums1_any _ a b (a - b) (fun w sb hw h => calls_rec (k := 23) (by decide) rfl rfl rfl w hw h fun w1 h1 => fanswer_sub a b (a - b) (fun w2 => foutcome_sub a b ha hb w2) w1 sb h1) w hw
theorem sums_mul (a b : Int) (ha : inI a) (hb : inI b) (w : World) (hw : FnTab w) : Calls Tryz.prog 21 #[.string ⟨#[109, 117, 108]⟩, .int .i64 a, .int .i64 b] w fun e w' => sumI (a * b) e w w' :=
  sums1_any _ a b (a * b) (fun w sb hw h => calls_rec (k := 15) (by decide) rfl rfl rfl w hw h fun w1 h1 => fanswer_mul a b (a * b) (fun w2 => foutcome_mul a b ha hb w2) w1 sb h1) w hw

/- Behind here: by gensums.py. -/
theorem sumI_yes {n : Int} {f : FuncId} {args : Array Value} {w : World} (hi : inI n) (h : Calls Tryz.prog f args w fun e w' => sumI n e w w') : Calls Tryz.prog f args w fun e w' => e = .returned (.tuple #[.int .i64 n, .int .i64 0]) ∧ Below w.heap.size w w' := h.mono fun e w' h => by
  rcases h with ⟨⟨h1, h2⟩ | ⟨h1, h2⟩, hb⟩
  · exact ⟨h2, hb⟩
  · exact absurd hi h1
theorem sumI_no {n : Int} {f : FuncId} {args : Array Value} {w : World} (hi : ¬ inI n) (h : Calls Tryz.prog f args w fun e w' => sumI n e w w') : Calls Tryz.prog f args w fun e w' => e = .returned (.tuple #[.int .i64 0, .int .i64 9]) ∧ Below w.heap.size w w' := h.mono fun e w' h => by
  rcases h with ⟨⟨h1, h2⟩ | ⟨h1, h2⟩, hb⟩
  · exact absurd h1 hi
  · exact ⟨h2, hb⟩

set_option maxRecDepth 100000 in
set_option maxHeartbeats 4000000 in
theorem funcsSums_any (a b : Int) (ha0 : -9223372036854775808 ≤ a) (ha1 : a ≤ 9223372036854775807) (hb0 : -9223372036854775808 ≤ b) (hb1 : b ≤ 9223372036854775807) (w : World) (hw : FnTab w) :
    Calls Tryz.prog 6 #[.int .i64 a, .int .i64 b] w fun e w' => e = .returned (.bool true) ∧ Below w.heap.size w w' := by
  have HW := Lib.hid hw
  have HA : Hid (inI a) := ⟨ha0, ha1⟩
  have HB : Hid (inI b) := ⟨hb0, hb1⟩
  have AW := Lib.hid (fun w' (hb : Below w.heap.size w w') => l8awake_any w' (HW.out.later hb))
  have C1 : Hid (b + a = a + b) := Int.add_comm b a
  have C2 : Hid (b * a = a * b) := Int.mul_comm b a
  have C3 : Hid (a + b - b = a) := by show _ = _; omega
  clear hw
  by_cases h1 : inI (a + b)
  · skip
    by_cases h2 : inI (a * b)
    · by_cases h3 : b = 0
      · skip
        have A1 : Hid (∀ w', Below w.heap.size w w' → Calls Tryz.prog 21 #[.string ⟨#[97, 100, 100]⟩, .int .i64 a, .int .i64 b] w' fun e w2 => e = .returned (.tuple #[.int .i64 (a + b), .int .i64 0]) ∧ Below w'.heap.size w' w2) := fun w' hb => by
          have h := sums_add a b HA.out HB.out w' (HW.out.later hb)
          exact sumI_yes h1 h
        have A2 : Hid (∀ w', Below w.heap.size w w' → Calls Tryz.prog 21 #[.string ⟨#[97, 100, 100]⟩, .int .i64 b, .int .i64 a] w' fun e w2 => e = .returned (.tuple #[.int .i64 (a + b), .int .i64 0]) ∧ Below w'.heap.size w' w2) := fun w' hb => by
          have h := sums_add b a HB.out HA.out w' (HW.out.later hb)
          rw [C1.out] at h
          exact sumI_yes h1 h
        have M1 : Hid (∀ w', Below w.heap.size w w' → Calls Tryz.prog 21 #[.string ⟨#[109, 117, 108]⟩, .int .i64 a, .int .i64 b] w' fun e w2 => e = .returned (.tuple #[.int .i64 (a * b), .int .i64 0]) ∧ Below w'.heap.size w' w2) := fun w' hb => by
          have h := sums_mul a b HA.out HB.out w' (HW.out.later hb)
          exact sumI_yes h2 h
        have M2 : Hid (∀ w', Below w.heap.size w w' → Calls Tryz.prog 21 #[.string ⟨#[109, 117, 108]⟩, .int .i64 b, .int .i64 a] w' fun e w2 => e = .returned (.tuple #[.int .i64 (a * b), .int .i64 0]) ∧ Below w'.heap.size w' w2) := fun w' hb => by
          have h := sums_mul b a HB.out HA.out w' (HW.out.later hb)
          rw [C2.out] at h
          exact sumI_yes h2 h
        have S1 : Hid (∀ w', Below w.heap.size w w' → Calls Tryz.prog 21 #[.string ⟨#[115, 117, 98]⟩, .int .i64 (a + b), .int .i64 b] w' fun e w2 => e = .returned (.tuple #[.int .i64 a, .int .i64 0]) ∧ Below w'.heap.size w' w2) := fun w' hb => by
          have h := sums_sub (a + b) b h1 HB.out w' (HW.out.later hb)
          rw [C3.out] at h
          exact sumI_yes HA.out h
        have hz2 : (b != 0) = false := by rw [h3]; rfl
        have hz : (b == 0) = true := by rw [h3]; rfl
        clear h1 h2 h3
        go_enter Tryz.func6, Tryz.ntmps6
        go_wp2_with (first
          | (with_reducible refine (A1.out w (Below.refl _ _)).mono ?_; rintro e w1 ⟨rfl, hb⟩; have K1 := Lib.hid (hb); clear hb)
          | (with_reducible refine (A2.out w1 K1.out).mono ?_; rintro e w2 ⟨rfl, hb⟩; have K2 := Lib.hid (bstep K1.out hb (K1.out).size); clear hb)
          | (with_reducible refine (M1.out w2 K2.out).mono ?_; rintro e w3 ⟨rfl, hb⟩; have K3 := Lib.hid (bstep K2.out hb (K2.out).size); clear hb)
          | (with_reducible refine (M2.out w3 K3.out).mono ?_; rintro e w4 ⟨rfl, hb⟩; have K4 := Lib.hid (bstep K3.out hb (K3.out).size); clear hb)
          | (with_reducible refine (S1.out w4 K4.out).mono ?_; rintro e w5 ⟨rfl, hb⟩; have K5 := Lib.hid (bstep K4.out hb (K4.out).size); clear hb)
          | (with_reducible refine (AW.out w5 K5.out).mono ?_; rintro e w9 ⟨rfl, hb⟩; have K9 := Lib.hid (bstep K5.out hb (K5.out).size); clear hb))
        go_ret
        exact ⟨rfl, K9.out⟩
      · skip
        have A1 : Hid (∀ w', Below w.heap.size w w' → Calls Tryz.prog 21 #[.string ⟨#[97, 100, 100]⟩, .int .i64 a, .int .i64 b] w' fun e w2 => e = .returned (.tuple #[.int .i64 (a + b), .int .i64 0]) ∧ Below w'.heap.size w' w2) := fun w' hb => by
          have h := sums_add a b HA.out HB.out w' (HW.out.later hb)
          exact sumI_yes h1 h
        have A2 : Hid (∀ w', Below w.heap.size w w' → Calls Tryz.prog 21 #[.string ⟨#[97, 100, 100]⟩, .int .i64 b, .int .i64 a] w' fun e w2 => e = .returned (.tuple #[.int .i64 (a + b), .int .i64 0]) ∧ Below w'.heap.size w' w2) := fun w' hb => by
          have h := sums_add b a HB.out HA.out w' (HW.out.later hb)
          rw [C1.out] at h
          exact sumI_yes h1 h
        have M1 : Hid (∀ w', Below w.heap.size w w' → Calls Tryz.prog 21 #[.string ⟨#[109, 117, 108]⟩, .int .i64 a, .int .i64 b] w' fun e w2 => e = .returned (.tuple #[.int .i64 (a * b), .int .i64 0]) ∧ Below w'.heap.size w' w2) := fun w' hb => by
          have h := sums_mul a b HA.out HB.out w' (HW.out.later hb)
          exact sumI_yes h2 h
        have M2 : Hid (∀ w', Below w.heap.size w w' → Calls Tryz.prog 21 #[.string ⟨#[109, 117, 108]⟩, .int .i64 b, .int .i64 a] w' fun e w2 => e = .returned (.tuple #[.int .i64 (a * b), .int .i64 0]) ∧ Below w'.heap.size w' w2) := fun w' hb => by
          have h := sums_mul b a HB.out HA.out w' (HW.out.later hb)
          rw [C2.out] at h
          exact sumI_yes h2 h
        have S1 : Hid (∀ w', Below w.heap.size w w' → Calls Tryz.prog 21 #[.string ⟨#[115, 117, 98]⟩, .int .i64 (a + b), .int .i64 b] w' fun e w2 => e = .returned (.tuple #[.int .i64 a, .int .i64 0]) ∧ Below w'.heap.size w' w2) := fun w' hb => by
          have h := sums_sub (a + b) b h1 HB.out w' (HW.out.later hb)
          rw [C3.out] at h
          exact sumI_yes HA.out h
        have hq : (a * b).tdiv b = a := Int.mul_tdiv_cancel a h3
        have hr : (a * b).tmod b = 0 := Int.mul_tmod_left a b
        have hz : (b == 0) = false := by rw [beq_eq_false_iff_ne]; exact h3
        have hz2 : (b != 0) = true := by rw [bne_iff_ne]; exact h3
        have hz3 : (b = 0) = False := by simp only [eq_iff_iff, iff_false]; exact h3
        clear h1 h2 h3
        go_enter Tryz.func6, Tryz.ntmps6
        go_wp2_with (first
          | (with_reducible refine (A1.out w (Below.refl _ _)).mono ?_; rintro e w1 ⟨rfl, hb⟩; have K1 := Lib.hid (hb); clear hb)
          | (with_reducible refine (A2.out w1 K1.out).mono ?_; rintro e w2 ⟨rfl, hb⟩; have K2 := Lib.hid (bstep K1.out hb (K1.out).size); clear hb)
          | (with_reducible refine (M1.out w2 K2.out).mono ?_; rintro e w3 ⟨rfl, hb⟩; have K3 := Lib.hid (bstep K2.out hb (K2.out).size); clear hb)
          | (with_reducible refine (M2.out w3 K3.out).mono ?_; rintro e w4 ⟨rfl, hb⟩; have K4 := Lib.hid (bstep K3.out hb (K3.out).size); clear hb)
          | (with_reducible refine (S1.out w4 K4.out).mono ?_; rintro e w5 ⟨rfl, hb⟩; have K5 := Lib.hid (bstep K4.out hb (K4.out).size); clear hb)
          | (with_reducible refine (AW.out w5 K5.out).mono ?_; rintro e w9 ⟨rfl, hb⟩; have K9 := Lib.hid (bstep K5.out hb (K5.out).size); clear hb))
        go_ret
        exact ⟨rfl, K9.out⟩
    · skip
      have A1 : Hid (∀ w', Below w.heap.size w w' → Calls Tryz.prog 21 #[.string ⟨#[97, 100, 100]⟩, .int .i64 a, .int .i64 b] w' fun e w2 => e = .returned (.tuple #[.int .i64 (a + b), .int .i64 0]) ∧ Below w'.heap.size w' w2) := fun w' hb => by
        have h := sums_add a b HA.out HB.out w' (HW.out.later hb)
        exact sumI_yes h1 h
      have A2 : Hid (∀ w', Below w.heap.size w w' → Calls Tryz.prog 21 #[.string ⟨#[97, 100, 100]⟩, .int .i64 b, .int .i64 a] w' fun e w2 => e = .returned (.tuple #[.int .i64 (a + b), .int .i64 0]) ∧ Below w'.heap.size w' w2) := fun w' hb => by
        have h := sums_add b a HB.out HA.out w' (HW.out.later hb)
        rw [C1.out] at h
        exact sumI_yes h1 h
      have M1 : Hid (∀ w', Below w.heap.size w w' → Calls Tryz.prog 21 #[.string ⟨#[109, 117, 108]⟩, .int .i64 a, .int .i64 b] w' fun e w2 => e = .returned (.tuple #[.int .i64 0, .int .i64 9]) ∧ Below w'.heap.size w' w2) := fun w' hb => by
        have h := sums_mul a b HA.out HB.out w' (HW.out.later hb)
        exact sumI_no h2 h
      have M2 : Hid (∀ w', Below w.heap.size w w' → Calls Tryz.prog 21 #[.string ⟨#[109, 117, 108]⟩, .int .i64 b, .int .i64 a] w' fun e w2 => e = .returned (.tuple #[.int .i64 0, .int .i64 9]) ∧ Below w'.heap.size w' w2) := fun w' hb => by
        have h := sums_mul b a HB.out HA.out w' (HW.out.later hb)
        rw [C2.out] at h
        exact sumI_no h2 h
      have S1 : Hid (∀ w', Below w.heap.size w w' → Calls Tryz.prog 21 #[.string ⟨#[115, 117, 98]⟩, .int .i64 (a + b), .int .i64 b] w' fun e w2 => e = .returned (.tuple #[.int .i64 a, .int .i64 0]) ∧ Below w'.heap.size w' w2) := fun w' hb => by
        have h := sums_sub (a + b) b h1 HB.out w' (HW.out.later hb)
        rw [C3.out] at h
        exact sumI_yes HA.out h
      clear h1 h2
      go_enter Tryz.func6, Tryz.ntmps6
      go_wp2_with (first
        | (with_reducible refine (A1.out w (Below.refl _ _)).mono ?_; rintro e w1 ⟨rfl, hb⟩; have K1 := Lib.hid (hb); clear hb)
        | (with_reducible refine (A2.out w1 K1.out).mono ?_; rintro e w2 ⟨rfl, hb⟩; have K2 := Lib.hid (bstep K1.out hb (K1.out).size); clear hb)
        | (with_reducible refine (M1.out w2 K2.out).mono ?_; rintro e w3 ⟨rfl, hb⟩; have K3 := Lib.hid (bstep K2.out hb (K2.out).size); clear hb)
        | (with_reducible refine (M2.out w3 K3.out).mono ?_; rintro e w4 ⟨rfl, hb⟩; have K4 := Lib.hid (bstep K3.out hb (K3.out).size); clear hb)
        | (with_reducible refine (S1.out w4 K4.out).mono ?_; rintro e w5 ⟨rfl, hb⟩; have K5 := Lib.hid (bstep K4.out hb (K4.out).size); clear hb)
        | (with_reducible refine (AW.out w5 K5.out).mono ?_; rintro e w9 ⟨rfl, hb⟩; have K9 := Lib.hid (bstep K5.out hb (K5.out).size); clear hb))
      go_ret
      exact ⟨rfl, K9.out⟩
  · skip
    by_cases h2 : inI (a * b)
    · by_cases h3 : b = 0
      · skip
        have A1 : Hid (∀ w', Below w.heap.size w w' → Calls Tryz.prog 21 #[.string ⟨#[97, 100, 100]⟩, .int .i64 a, .int .i64 b] w' fun e w2 => e = .returned (.tuple #[.int .i64 0, .int .i64 9]) ∧ Below w'.heap.size w' w2) := fun w' hb => by
          have h := sums_add a b HA.out HB.out w' (HW.out.later hb)
          exact sumI_no h1 h
        have A2 : Hid (∀ w', Below w.heap.size w w' → Calls Tryz.prog 21 #[.string ⟨#[97, 100, 100]⟩, .int .i64 b, .int .i64 a] w' fun e w2 => e = .returned (.tuple #[.int .i64 0, .int .i64 9]) ∧ Below w'.heap.size w' w2) := fun w' hb => by
          have h := sums_add b a HB.out HA.out w' (HW.out.later hb)
          rw [C1.out] at h
          exact sumI_no h1 h
        have M1 : Hid (∀ w', Below w.heap.size w w' → Calls Tryz.prog 21 #[.string ⟨#[109, 117, 108]⟩, .int .i64 a, .int .i64 b] w' fun e w2 => e = .returned (.tuple #[.int .i64 (a * b), .int .i64 0]) ∧ Below w'.heap.size w' w2) := fun w' hb => by
          have h := sums_mul a b HA.out HB.out w' (HW.out.later hb)
          exact sumI_yes h2 h
        have M2 : Hid (∀ w', Below w.heap.size w w' → Calls Tryz.prog 21 #[.string ⟨#[109, 117, 108]⟩, .int .i64 b, .int .i64 a] w' fun e w2 => e = .returned (.tuple #[.int .i64 (a * b), .int .i64 0]) ∧ Below w'.heap.size w' w2) := fun w' hb => by
          have h := sums_mul b a HB.out HA.out w' (HW.out.later hb)
          rw [C2.out] at h
          exact sumI_yes h2 h
        have hz2 : (b != 0) = false := by rw [h3]; rfl
        have hz : (b == 0) = true := by rw [h3]; rfl
        clear h1 h2 h3
        go_enter Tryz.func6, Tryz.ntmps6
        go_wp2_with (first
          | (with_reducible refine (A1.out w (Below.refl _ _)).mono ?_; rintro e w1 ⟨rfl, hb⟩; have K1 := Lib.hid (hb); clear hb)
          | (with_reducible refine (A2.out w1 K1.out).mono ?_; rintro e w2 ⟨rfl, hb⟩; have K2 := Lib.hid (bstep K1.out hb (K1.out).size); clear hb)
          | (with_reducible refine (M1.out w2 K2.out).mono ?_; rintro e w3 ⟨rfl, hb⟩; have K3 := Lib.hid (bstep K2.out hb (K2.out).size); clear hb)
          | (with_reducible refine (M2.out w3 K3.out).mono ?_; rintro e w4 ⟨rfl, hb⟩; have K4 := Lib.hid (bstep K3.out hb (K3.out).size); clear hb)
          | (with_reducible refine (AW.out w4 K4.out).mono ?_; rintro e w9 ⟨rfl, hb⟩; have K9 := Lib.hid (bstep K4.out hb (K4.out).size); clear hb))
        go_ret
        exact ⟨rfl, K9.out⟩
      · skip
        have A1 : Hid (∀ w', Below w.heap.size w w' → Calls Tryz.prog 21 #[.string ⟨#[97, 100, 100]⟩, .int .i64 a, .int .i64 b] w' fun e w2 => e = .returned (.tuple #[.int .i64 0, .int .i64 9]) ∧ Below w'.heap.size w' w2) := fun w' hb => by
          have h := sums_add a b HA.out HB.out w' (HW.out.later hb)
          exact sumI_no h1 h
        have A2 : Hid (∀ w', Below w.heap.size w w' → Calls Tryz.prog 21 #[.string ⟨#[97, 100, 100]⟩, .int .i64 b, .int .i64 a] w' fun e w2 => e = .returned (.tuple #[.int .i64 0, .int .i64 9]) ∧ Below w'.heap.size w' w2) := fun w' hb => by
          have h := sums_add b a HB.out HA.out w' (HW.out.later hb)
          rw [C1.out] at h
          exact sumI_no h1 h
        have M1 : Hid (∀ w', Below w.heap.size w w' → Calls Tryz.prog 21 #[.string ⟨#[109, 117, 108]⟩, .int .i64 a, .int .i64 b] w' fun e w2 => e = .returned (.tuple #[.int .i64 (a * b), .int .i64 0]) ∧ Below w'.heap.size w' w2) := fun w' hb => by
          have h := sums_mul a b HA.out HB.out w' (HW.out.later hb)
          exact sumI_yes h2 h
        have M2 : Hid (∀ w', Below w.heap.size w w' → Calls Tryz.prog 21 #[.string ⟨#[109, 117, 108]⟩, .int .i64 b, .int .i64 a] w' fun e w2 => e = .returned (.tuple #[.int .i64 (a * b), .int .i64 0]) ∧ Below w'.heap.size w' w2) := fun w' hb => by
          have h := sums_mul b a HB.out HA.out w' (HW.out.later hb)
          rw [C2.out] at h
          exact sumI_yes h2 h
        have hq : (a * b).tdiv b = a := Int.mul_tdiv_cancel a h3
        have hr : (a * b).tmod b = 0 := Int.mul_tmod_left a b
        have hz : (b == 0) = false := by rw [beq_eq_false_iff_ne]; exact h3
        have hz2 : (b != 0) = true := by rw [bne_iff_ne]; exact h3
        have hz3 : (b = 0) = False := by simp only [eq_iff_iff, iff_false]; exact h3
        clear h1 h2 h3
        go_enter Tryz.func6, Tryz.ntmps6
        go_wp2_with (first
          | (with_reducible refine (A1.out w (Below.refl _ _)).mono ?_; rintro e w1 ⟨rfl, hb⟩; have K1 := Lib.hid (hb); clear hb)
          | (with_reducible refine (A2.out w1 K1.out).mono ?_; rintro e w2 ⟨rfl, hb⟩; have K2 := Lib.hid (bstep K1.out hb (K1.out).size); clear hb)
          | (with_reducible refine (M1.out w2 K2.out).mono ?_; rintro e w3 ⟨rfl, hb⟩; have K3 := Lib.hid (bstep K2.out hb (K2.out).size); clear hb)
          | (with_reducible refine (M2.out w3 K3.out).mono ?_; rintro e w4 ⟨rfl, hb⟩; have K4 := Lib.hid (bstep K3.out hb (K3.out).size); clear hb)
          | (with_reducible refine (AW.out w4 K4.out).mono ?_; rintro e w9 ⟨rfl, hb⟩; have K9 := Lib.hid (bstep K4.out hb (K4.out).size); clear hb))
        go_ret
        exact ⟨rfl, K9.out⟩
    · skip
      have A1 : Hid (∀ w', Below w.heap.size w w' → Calls Tryz.prog 21 #[.string ⟨#[97, 100, 100]⟩, .int .i64 a, .int .i64 b] w' fun e w2 => e = .returned (.tuple #[.int .i64 0, .int .i64 9]) ∧ Below w'.heap.size w' w2) := fun w' hb => by
        have h := sums_add a b HA.out HB.out w' (HW.out.later hb)
        exact sumI_no h1 h
      have A2 : Hid (∀ w', Below w.heap.size w w' → Calls Tryz.prog 21 #[.string ⟨#[97, 100, 100]⟩, .int .i64 b, .int .i64 a] w' fun e w2 => e = .returned (.tuple #[.int .i64 0, .int .i64 9]) ∧ Below w'.heap.size w' w2) := fun w' hb => by
        have h := sums_add b a HB.out HA.out w' (HW.out.later hb)
        rw [C1.out] at h
        exact sumI_no h1 h
      have M1 : Hid (∀ w', Below w.heap.size w w' → Calls Tryz.prog 21 #[.string ⟨#[109, 117, 108]⟩, .int .i64 a, .int .i64 b] w' fun e w2 => e = .returned (.tuple #[.int .i64 0, .int .i64 9]) ∧ Below w'.heap.size w' w2) := fun w' hb => by
        have h := sums_mul a b HA.out HB.out w' (HW.out.later hb)
        exact sumI_no h2 h
      have M2 : Hid (∀ w', Below w.heap.size w w' → Calls Tryz.prog 21 #[.string ⟨#[109, 117, 108]⟩, .int .i64 b, .int .i64 a] w' fun e w2 => e = .returned (.tuple #[.int .i64 0, .int .i64 9]) ∧ Below w'.heap.size w' w2) := fun w' hb => by
        have h := sums_mul b a HB.out HA.out w' (HW.out.later hb)
        rw [C2.out] at h
        exact sumI_no h2 h
      clear h1 h2
      go_enter Tryz.func6, Tryz.ntmps6
      go_wp2_with (first
        | (with_reducible refine (A1.out w (Below.refl _ _)).mono ?_; rintro e w1 ⟨rfl, hb⟩; have K1 := Lib.hid (hb); clear hb)
        | (with_reducible refine (A2.out w1 K1.out).mono ?_; rintro e w2 ⟨rfl, hb⟩; have K2 := Lib.hid (bstep K1.out hb (K1.out).size); clear hb)
        | (with_reducible refine (M1.out w2 K2.out).mono ?_; rintro e w3 ⟨rfl, hb⟩; have K3 := Lib.hid (bstep K2.out hb (K2.out).size); clear hb)
        | (with_reducible refine (M2.out w3 K3.out).mono ?_; rintro e w4 ⟨rfl, hb⟩; have K4 := Lib.hid (bstep K3.out hb (K3.out).size); clear hb)
        | (with_reducible refine (AW.out w4 K4.out).mono ?_; rintro e w9 ⟨rfl, hb⟩; have K9 := Lib.hid (bstep K4.out hb (K4.out).size); clear hb))
      go_ret
      exact ⟨rfl, K9.out⟩

end Go.Proofs.YtkonkjaabkmecaaGreatDoor
