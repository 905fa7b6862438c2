/-
  The reference's Bare.
-/
import Derived.Test.YtbmlmcoepmbelaaDoorBare
set_option linter.unusedVariables false
set_option linter.unusedSimpArgs false
namespace Go.Proofs.YtbmlmcoepmbelaaDoor
open Go.RowKit

theorem byte_class (c : Nat) : (65 ≤ c ∧ c ≤ 90) ∨ (97 ≤ c ∧ c ≤ 122) ∨ (48 ≤ c ∧ c ≤ 57) ∨ (c = 95) ∨ (c = 45) ∨ (c = 46) ∨ (c = 47) ∨ (c < 45) ∨ (57 < c ∧ c < 65) ∨ (90 < c ∧ c < 95) ∨ (c = 96) ∨ (122 < c) := by omega
theorem bare_iff (c : UInt8) : bareB c = true ↔ (65 ≤ c.toNat ∧ c.toNat ≤ 90) ∨ (97 ≤ c.toNat ∧ c.toNat ≤ 122) ∨ (48 ≤ c.toNat ∧ c.toNat ≤ 57) ∨ c.toNat = 95 ∨ c.toNat = 45 ∨ c.toNat = 46 ∨ c.toNat = 47 := by
  simp only [bareB, letterB, digitB, markB, Bool.or_eq_true, Bool.and_eq_true, decide_eq_true_eq]
  omega
theorem letter_iff (c : UInt8) : letterB c = true ↔ (65 ≤ c.toNat ∧ c.toNat ≤ 90) ∨ (97 ≤ c.toNat ∧ c.toNat ≤ 122) := by
  simp only [letterB, Bool.or_eq_true, Bool.and_eq_true, decide_eq_true_eq]
  omega
theorem not_bare {c : UInt8} (h : ¬ bareB c = true) : bareB c = false := Bool.eq_false_iff.2 h
theorem not_letter {c : UInt8} (h : ¬ letterB c = true) : letterB c = false := Bool.eq_false_iff.2 h

set_option maxRecDepth 100000 in
set_option maxHeartbeats 4000000 in
theorem r4Bare_any (s : ByteArray) (hs : s.size ≤ 140737488355328) (w : World) : Calls Tryd.prog 61 #[.string s] w fun e w' => e = .returned (.bool (bareL s.data.toList)) ∧ w' = w := by
  by_cases h0 : s.size = 0
  · have hse : s = ⟨#[]⟩ := by
      rw [← Lib.mk_data s]
      have : s.data.toList = [] := List.eq_nil_of_length_eq_zero (by rw [← Lib.size_eq]; exact h0)
      rw [this]
    subst hse
    go_enter Tryd.func61, Tryd.ntmps61
    go_wp2_with fail
    go_ret
    exact ⟨rfl, rfl⟩
  · have h0' : 0 < s.size := by omega
    have z2 : ¬ s = ByteArray.empty := fun e => by rw [e] at h0'; exact absurd h0' (by decide)
    have z3 : ((s.size : Int) == 0) = false := by rw [beq_eq_false_iff_ne]; omega
    have HB := Lib.hid (bareL_some s h0')
    clear h0
    have h1 := str_is s [110, 117, 108, 108]
    have h2 := str_is s [116, 114, 117, 101]
    have h3 := str_is s [102, 97, 108, 115, 101]
    by_cases e1 : s.data.toList = [110, 117, 108, 108]
    · rw [decide_eq_true e1] at h1
      have HW : Hid (wordsB s.data.toList = true) := by show _ = _; rw [e1]; rfl
      clear e1 h2 h3
      go_enter Tryd.func61, Tryd.ntmps61
      go_wp2_with fail
      go_ret
      exact ⟨ret_bool (by rw [HB.out, HW.out]; simp), rfl⟩
    · rw [decide_eq_false e1] at h1
      by_cases e2 : s.data.toList = [116, 114, 117, 101]
      · rw [decide_eq_true e2] at h2
        have HW : Hid (wordsB s.data.toList = true) := by show _ = _; rw [e2]; rfl
        clear e1 e2 h3
        go_enter Tryd.func61, Tryd.ntmps61
        go_wp2_with fail
        go_ret
        exact ⟨ret_bool (by rw [HB.out, HW.out]; simp), rfl⟩
      · rw [decide_eq_false e2] at h2
        by_cases e3 : s.data.toList = [102, 97, 108, 115, 101]
        · rw [decide_eq_true e3] at h3
          have HW : Hid (wordsB s.data.toList = true) := by show _ = _; rw [e3]; rfl
          clear e1 e2 e3 
          go_enter Tryd.func61, Tryd.ntmps61
          go_wp2_with fail
          go_ret
          exact ⟨ret_bool (by rw [HB.out, HW.out]; simp), rfl⟩
        · rw [decide_eq_false e3] at h3
          have HW : Hid (wordsB s.data.toList = false) := by show _ = _; rw [wordsB, decide_eq_false e1, decide_eq_false e2, decide_eq_false e3]; rfl
          clear e1 e2 e3
          go_enter Tryd.func61, Tryd.ntmps61
          go_wp2_with fail
          go_loop [3] (fun vi => ∃ k : Nat, k ≤ s.size ∧ vi = .int .i64 k ∧ Hid (∀ i (h : i < s.size), i < k → bareB s[i] = true) ∧ Hid (0 < k → letterB s[0] = true)) (fun vi => s.size - (intOf vi).toNat)
          case atStart => exact ⟨0, Nat.zero_le _, rfl, fun i h hi => absurd hi (Nat.not_lt_zero i), fun h => absurd h (by omega)⟩
          case round =>
            obtain ⟨k, hk, rfl, HG, HL⟩ := hrel
            by_cases hkl : k < s.size
            · have hc := s[k].toNat_lt
              by_cases hk0 : k = 0
              · subst hk0
                rcases byte_class s[0].toNat with ⟨a1, a2⟩ | ⟨a1, a2⟩ | ⟨a1, a2⟩ | a1 | a1 | a1 | a1 | a1 | ⟨a1, a2⟩ | ⟨a1, a2⟩ | a1 | a1
                · have q95 : ((s[0].toNat : Int) == 95) = false := by rw [beq_eq_false_iff_ne]; omega
                  have q45 : ((s[0].toNat : Int) == 45) = false := by rw [beq_eq_false_iff_ne]; omega
                  have q46 : ((s[0].toNat : Int) == 46) = false := by rw [beq_eq_false_iff_ne]; omega
                  have q47 : ((s[0].toNat : Int) == 47) = false := by rw [beq_eq_false_iff_ne]; omega
                  have HX : Hid (bareB s[0] = true) := (bare_iff _).2 (by omega)
                  have HY : Hid (letterB s[0] = true) := (letter_iff _).2 (by omega)
                  go_wp2_with fail
                  go_round
                  case rel => exact ⟨1, by omega, by go_num, fun i h hi => by
                    obtain rfl : i = 0 := by omega
                    exact HX.out, fun _ => HY.out⟩
                  case measure => simp [intOf]; omega
                · have q95 : ((s[0].toNat : Int) == 95) = false := by rw [beq_eq_false_iff_ne]; omega
                  have q45 : ((s[0].toNat : Int) == 45) = false := by rw [beq_eq_false_iff_ne]; omega
                  have q46 : ((s[0].toNat : Int) == 46) = false := by rw [beq_eq_false_iff_ne]; omega
                  have q47 : ((s[0].toNat : Int) == 47) = false := by rw [beq_eq_false_iff_ne]; omega
                  have HX : Hid (bareB s[0] = true) := (bare_iff _).2 (by omega)
                  have HY : Hid (letterB s[0] = true) := (letter_iff _).2 (by omega)
                  go_wp2_with fail
                  go_round
                  case rel => exact ⟨1, by omega, by go_num, fun i h hi => by
                    obtain rfl : i = 0 := by omega
                    exact HX.out, fun _ => HY.out⟩
                  case measure => simp [intOf]; omega
                · have q95 : ((s[0].toNat : Int) == 95) = false := by rw [beq_eq_false_iff_ne]; omega
                  have q45 : ((s[0].toNat : Int) == 45) = false := by rw [beq_eq_false_iff_ne]; omega
                  have q46 : ((s[0].toNat : Int) == 46) = false := by rw [beq_eq_false_iff_ne]; omega
                  have q47 : ((s[0].toNat : Int) == 47) = false := by rw [beq_eq_false_iff_ne]; omega
                  have HX : Hid (letterB s[0] = false) := not_letter (fun h => by have := (letter_iff _).1 h; omega)
                  go_wp2_with fail
                  all_goals
                    first
                    | (exfalso; omega)
                    | (exfalso; simp only [Bool.not_eq_false', Bool.not_eq_true', decide_eq_true_eq, decide_eq_false_iff_not] at *; omega)
                    | (go_ret; exact ⟨ret_bool (by rw [HB.out, HX.out]; rfl), rfl⟩)
                · have q95 : ((s[0].toNat : Int) == 95) = true := by rw [beq_iff_eq]; omega
                  have q45 : ((s[0].toNat : Int) == 45) = false := by rw [beq_eq_false_iff_ne]; omega
                  have q46 : ((s[0].toNat : Int) == 46) = false := by rw [beq_eq_false_iff_ne]; omega
                  have q47 : ((s[0].toNat : Int) == 47) = false := by rw [beq_eq_false_iff_ne]; omega
                  have HX : Hid (letterB s[0] = false) := not_letter (fun h => by have := (letter_iff _).1 h; omega)
                  go_wp2_with fail
                  all_goals
                    first
                    | (exfalso; omega)
                    | (exfalso; simp only [Bool.not_eq_false', Bool.not_eq_true', decide_eq_true_eq, decide_eq_false_iff_not] at *; omega)
                    | (go_ret; exact ⟨ret_bool (by rw [HB.out, HX.out]; rfl), rfl⟩)
                · have q95 : ((s[0].toNat : Int) == 95) = false := by rw [beq_eq_false_iff_ne]; omega
                  have q45 : ((s[0].toNat : Int) == 45) = true := by rw [beq_iff_eq]; omega
                  have q46 : ((s[0].toNat : Int) == 46) = false := by rw [beq_eq_false_iff_ne]; omega
                  have q47 : ((s[0].toNat : Int) == 47) = false := by rw [beq_eq_false_iff_ne]; omega
                  have HX : Hid (letterB s[0] = false) := not_letter (fun h => by have := (letter_iff _).1 h; omega)
                  go_wp2_with fail
                  all_goals
                    first
                    | (exfalso; omega)
                    | (exfalso; simp only [Bool.not_eq_false', Bool.not_eq_true', decide_eq_true_eq, decide_eq_false_iff_not] at *; omega)
                    | (go_ret; exact ⟨ret_bool (by rw [HB.out, HX.out]; rfl), rfl⟩)
                · have q95 : ((s[0].toNat : Int) == 95) = false := by rw [beq_eq_false_iff_ne]; omega
                  have q45 : ((s[0].toNat : Int) == 45) = false := by rw [beq_eq_false_iff_ne]; omega
                  have q46 : ((s[0].toNat : Int) == 46) = true := by rw [beq_iff_eq]; omega
                  have q47 : ((s[0].toNat : Int) == 47) = false := by rw [beq_eq_false_iff_ne]; omega
                  have HX : Hid (letterB s[0] = false) := not_letter (fun h => by have := (letter_iff _).1 h; omega)
                  go_wp2_with fail
                  all_goals
                    first
                    | (exfalso; omega)
                    | (exfalso; simp only [Bool.not_eq_false', Bool.not_eq_true', decide_eq_true_eq, decide_eq_false_iff_not] at *; omega)
                    | (go_ret; exact ⟨ret_bool (by rw [HB.out, HX.out]; rfl), rfl⟩)
                · have q95 : ((s[0].toNat : Int) == 95) = false := by rw [beq_eq_false_iff_ne]; omega
                  have q45 : ((s[0].toNat : Int) == 45) = false := by rw [beq_eq_false_iff_ne]; omega
                  have q46 : ((s[0].toNat : Int) == 46) = false := by rw [beq_eq_false_iff_ne]; omega
                  have q47 : ((s[0].toNat : Int) == 47) = true := by rw [beq_iff_eq]; omega
                  have HX : Hid (letterB s[0] = false) := not_letter (fun h => by have := (letter_iff _).1 h; omega)
                  go_wp2_with fail
                  all_goals
                    first
                    | (exfalso; omega)
                    | (exfalso; simp only [Bool.not_eq_false', Bool.not_eq_true', decide_eq_true_eq, decide_eq_false_iff_not] at *; omega)
                    | (go_ret; exact ⟨ret_bool (by rw [HB.out, HX.out]; rfl), rfl⟩)
                · have q95 : ((s[0].toNat : Int) == 95) = false := by rw [beq_eq_false_iff_ne]; omega
                  have q45 : ((s[0].toNat : Int) == 45) = false := by rw [beq_eq_false_iff_ne]; omega
                  have q46 : ((s[0].toNat : Int) == 46) = false := by rw [beq_eq_false_iff_ne]; omega
                  have q47 : ((s[0].toNat : Int) == 47) = false := by rw [beq_eq_false_iff_ne]; omega
                  have HX : Hid (letterB s[0] = false) := not_letter (fun h => by have := (letter_iff _).1 h; omega)
                  go_wp2_with fail
                  all_goals
                    first
                    | (exfalso; omega)
                    | (exfalso; simp only [Bool.not_eq_false', Bool.not_eq_true', decide_eq_true_eq, decide_eq_false_iff_not] at *; omega)
                    | (go_ret; exact ⟨ret_bool (by rw [HB.out, HX.out]; rfl), rfl⟩)
                · have q95 : ((s[0].toNat : Int) == 95) = false := by rw [beq_eq_false_iff_ne]; omega
                  have q45 : ((s[0].toNat : Int) == 45) = false := by rw [beq_eq_false_iff_ne]; omega
                  have q46 : ((s[0].toNat : Int) == 46) = false := by rw [beq_eq_false_iff_ne]; omega
                  have q47 : ((s[0].toNat : Int) == 47) = false := by rw [beq_eq_false_iff_ne]; omega
                  have HX : Hid (letterB s[0] = false) := not_letter (fun h => by have := (letter_iff _).1 h; omega)
                  go_wp2_with fail
                  all_goals
                    first
                    | (exfalso; omega)
                    | (exfalso; simp only [Bool.not_eq_false', Bool.not_eq_true', decide_eq_true_eq, decide_eq_false_iff_not] at *; omega)
                    | (go_ret; exact ⟨ret_bool (by rw [HB.out, HX.out]; rfl), rfl⟩)
                · have q95 : ((s[0].toNat : Int) == 95) = false := by rw [beq_eq_false_iff_ne]; omega
                  have q45 : ((s[0].toNat : Int) == 45) = false := by rw [beq_eq_false_iff_ne]; omega
                  have q46 : ((s[0].toNat : Int) == 46) = false := by rw [beq_eq_false_iff_ne]; omega
                  have q47 : ((s[0].toNat : Int) == 47) = false := by rw [beq_eq_false_iff_ne]; omega
                  have HX : Hid (letterB s[0] = false) := not_letter (fun h => by have := (letter_iff _).1 h; omega)
                  go_wp2_with fail
                  all_goals
                    first
                    | (exfalso; omega)
                    | (exfalso; simp only [Bool.not_eq_false', Bool.not_eq_true', decide_eq_true_eq, decide_eq_false_iff_not] at *; omega)
                    | (go_ret; exact ⟨ret_bool (by rw [HB.out, HX.out]; rfl), rfl⟩)
                · have q95 : ((s[0].toNat : Int) == 95) = false := by rw [beq_eq_false_iff_ne]; omega
                  have q45 : ((s[0].toNat : Int) == 45) = false := by rw [beq_eq_false_iff_ne]; omega
                  have q46 : ((s[0].toNat : Int) == 46) = false := by rw [beq_eq_false_iff_ne]; omega
                  have q47 : ((s[0].toNat : Int) == 47) = false := by rw [beq_eq_false_iff_ne]; omega
                  have HX : Hid (letterB s[0] = false) := not_letter (fun h => by have := (letter_iff _).1 h; omega)
                  go_wp2_with fail
                  all_goals
                    first
                    | (exfalso; omega)
                    | (exfalso; simp only [Bool.not_eq_false', Bool.not_eq_true', decide_eq_true_eq, decide_eq_false_iff_not] at *; omega)
                    | (go_ret; exact ⟨ret_bool (by rw [HB.out, HX.out]; rfl), rfl⟩)
                · have q95 : ((s[0].toNat : Int) == 95) = false := by rw [beq_eq_false_iff_ne]; omega
                  have q45 : ((s[0].toNat : Int) == 45) = false := by rw [beq_eq_false_iff_ne]; omega
                  have q46 : ((s[0].toNat : Int) == 46) = false := by rw [beq_eq_false_iff_ne]; omega
                  have q47 : ((s[0].toNat : Int) == 47) = false := by rw [beq_eq_false_iff_ne]; omega
                  have HX : Hid (letterB s[0] = false) := not_letter (fun h => by have := (letter_iff _).1 h; omega)
                  go_wp2_with fail
                  all_goals
                    first
                    | (exfalso; omega)
                    | (exfalso; simp only [Bool.not_eq_false', Bool.not_eq_true', decide_eq_true_eq, decide_eq_false_iff_not] at *; omega)
                    | (go_ret; exact ⟨ret_bool (by rw [HB.out, HX.out]; rfl), rfl⟩)
              · have k3 : ((k : Int) == 0) = false := by rw [beq_eq_false_iff_ne]; omega
                rcases byte_class s[k].toNat with ⟨a1, a2⟩ | ⟨a1, a2⟩ | ⟨a1, a2⟩ | a1 | a1 | a1 | a1 | a1 | ⟨a1, a2⟩ | ⟨a1, a2⟩ | a1 | a1
                · have q95 : ((s[k].toNat : Int) == 95) = false := by rw [beq_eq_false_iff_ne]; omega
                  have q45 : ((s[k].toNat : Int) == 45) = false := by rw [beq_eq_false_iff_ne]; omega
                  have q46 : ((s[k].toNat : Int) == 46) = false := by rw [beq_eq_false_iff_ne]; omega
                  have q47 : ((s[k].toNat : Int) == 47) = false := by rw [beq_eq_false_iff_ne]; omega
                  have HX : Hid (bareB s[k] = true) := (bare_iff _).2 (by omega)
                  go_wp2_with fail
                  go_round
                  case rel => exact ⟨k + 1, by omega, by go_num, fun i h hi => by
                    by_cases hik : i = k
                    · subst hik; exact HX.out
                    · exact HG.out i h (by omega), fun _ => HL.out (by omega)⟩
                  case measure => simp [intOf]; omega
                · have q95 : ((s[k].toNat : Int) == 95) = false := by rw [beq_eq_false_iff_ne]; omega
                  have q45 : ((s[k].toNat : Int) == 45) = false := by rw [beq_eq_false_iff_ne]; omega
                  have q46 : ((s[k].toNat : Int) == 46) = false := by rw [beq_eq_false_iff_ne]; omega
                  have q47 : ((s[k].toNat : Int) == 47) = false := by rw [beq_eq_false_iff_ne]; omega
                  have HX : Hid (bareB s[k] = true) := (bare_iff _).2 (by omega)
                  go_wp2_with fail
                  go_round
                  case rel => exact ⟨k + 1, by omega, by go_num, fun i h hi => by
                    by_cases hik : i = k
                    · subst hik; exact HX.out
                    · exact HG.out i h (by omega), fun _ => HL.out (by omega)⟩
                  case measure => simp [intOf]; omega
                · have q95 : ((s[k].toNat : Int) == 95) = false := by rw [beq_eq_false_iff_ne]; omega
                  have q45 : ((s[k].toNat : Int) == 45) = false := by rw [beq_eq_false_iff_ne]; omega
                  have q46 : ((s[k].toNat : Int) == 46) = false := by rw [beq_eq_false_iff_ne]; omega
                  have q47 : ((s[k].toNat : Int) == 47) = false := by rw [beq_eq_false_iff_ne]; omega
                  have HX : Hid (bareB s[k] = true) := (bare_iff _).2 (by omega)
                  go_wp2_with fail
                  go_round
                  case rel => exact ⟨k + 1, by omega, by go_num, fun i h hi => by
                    by_cases hik : i = k
                    · subst hik; exact HX.out
                    · exact HG.out i h (by omega), fun _ => HL.out (by omega)⟩
                  case measure => simp [intOf]; omega
                · have q95 : ((s[k].toNat : Int) == 95) = true := by rw [beq_iff_eq]; omega
                  have q45 : ((s[k].toNat : Int) == 45) = false := by rw [beq_eq_false_iff_ne]; omega
                  have q46 : ((s[k].toNat : Int) == 46) = false := by rw [beq_eq_false_iff_ne]; omega
                  have q47 : ((s[k].toNat : Int) == 47) = false := by rw [beq_eq_false_iff_ne]; omega
                  have HX : Hid (bareB s[k] = true) := (bare_iff _).2 (by omega)
                  go_wp2_with fail
                  go_round
                  case rel => exact ⟨k + 1, by omega, by go_num, fun i h hi => by
                    by_cases hik : i = k
                    · subst hik; exact HX.out
                    · exact HG.out i h (by omega), fun _ => HL.out (by omega)⟩
                  case measure => simp [intOf]; omega
                · have q95 : ((s[k].toNat : Int) == 95) = false := by rw [beq_eq_false_iff_ne]; omega
                  have q45 : ((s[k].toNat : Int) == 45) = true := by rw [beq_iff_eq]; omega
                  have q46 : ((s[k].toNat : Int) == 46) = false := by rw [beq_eq_false_iff_ne]; omega
                  have q47 : ((s[k].toNat : Int) == 47) = false := by rw [beq_eq_false_iff_ne]; omega
                  have HX : Hid (bareB s[k] = true) := (bare_iff _).2 (by omega)
                  go_wp2_with fail
                  go_round
                  case rel => exact ⟨k + 1, by omega, by go_num, fun i h hi => by
                    by_cases hik : i = k
                    · subst hik; exact HX.out
                    · exact HG.out i h (by omega), fun _ => HL.out (by omega)⟩
                  case measure => simp [intOf]; omega
                · have q95 : ((s[k].toNat : Int) == 95) = false := by rw [beq_eq_false_iff_ne]; omega
                  have q45 : ((s[k].toNat : Int) == 45) = false := by rw [beq_eq_false_iff_ne]; omega
                  have q46 : ((s[k].toNat : Int) == 46) = true := by rw [beq_iff_eq]; omega
                  have q47 : ((s[k].toNat : Int) == 47) = false := by rw [beq_eq_false_iff_ne]; omega
                  have HX : Hid (bareB s[k] = true) := (bare_iff _).2 (by omega)
                  go_wp2_with fail
                  go_round
                  case rel => exact ⟨k + 1, by omega, by go_num, fun i h hi => by
                    by_cases hik : i = k
                    · subst hik; exact HX.out
                    · exact HG.out i h (by omega), fun _ => HL.out (by omega)⟩
                  case measure => simp [intOf]; omega
                · have q95 : ((s[k].toNat : Int) == 95) = false := by rw [beq_eq_false_iff_ne]; omega
                  have q45 : ((s[k].toNat : Int) == 45) = false := by rw [beq_eq_false_iff_ne]; omega
                  have q46 : ((s[k].toNat : Int) == 46) = false := by rw [beq_eq_false_iff_ne]; omega
                  have q47 : ((s[k].toNat : Int) == 47) = true := by rw [beq_iff_eq]; omega
                  have HX : Hid (bareB s[k] = true) := (bare_iff _).2 (by omega)
                  go_wp2_with fail
                  go_round
                  case rel => exact ⟨k + 1, by omega, by go_num, fun i h hi => by
                    by_cases hik : i = k
                    · subst hik; exact HX.out
                    · exact HG.out i h (by omega), fun _ => HL.out (by omega)⟩
                  case measure => simp [intOf]; omega
                · have q95 : ((s[k].toNat : Int) == 95) = false := by rw [beq_eq_false_iff_ne]; omega
                  have q45 : ((s[k].toNat : Int) == 45) = false := by rw [beq_eq_false_iff_ne]; omega
                  have q46 : ((s[k].toNat : Int) == 46) = false := by rw [beq_eq_false_iff_ne]; omega
                  have q47 : ((s[k].toNat : Int) == 47) = false := by rw [beq_eq_false_iff_ne]; omega
                  have HX : Hid (bareB s[k] = false) := not_bare (fun h => by have := (bare_iff _).1 h; omega)
                  go_wp2_with fail
                  all_goals
                    first
                    | (exfalso; omega)
                    | (exfalso; simp only [Bool.not_eq_false', Bool.not_eq_true', decide_eq_true_eq, decide_eq_false_iff_not] at *; omega)
                    | (go_ret; exact ⟨ret_bool (by rw [HB.out, not_all_bytes k hkl HX.out]; simp), rfl⟩)
                · have q95 : ((s[k].toNat : Int) == 95) = false := by rw [beq_eq_false_iff_ne]; omega
                  have q45 : ((s[k].toNat : Int) == 45) = false := by rw [beq_eq_false_iff_ne]; omega
                  have q46 : ((s[k].toNat : Int) == 46) = false := by rw [beq_eq_false_iff_ne]; omega
                  have q47 : ((s[k].toNat : Int) == 47) = false := by rw [beq_eq_false_iff_ne]; omega
                  have HX : Hid (bareB s[k] = false) := not_bare (fun h => by have := (bare_iff _).1 h; omega)
                  go_wp2_with fail
                  all_goals
                    first
                    | (exfalso; omega)
                    | (exfalso; simp only [Bool.not_eq_false', Bool.not_eq_true', decide_eq_true_eq, decide_eq_false_iff_not] at *; omega)
                    | (go_ret; exact ⟨ret_bool (by rw [HB.out, not_all_bytes k hkl HX.out]; simp), rfl⟩)
                · have q95 : ((s[k].toNat : Int) == 95) = false := by rw [beq_eq_false_iff_ne]; omega
                  have q45 : ((s[k].toNat : Int) == 45) = false := by rw [beq_eq_false_iff_ne]; omega
                  have q46 : ((s[k].toNat : Int) == 46) = false := by rw [beq_eq_false_iff_ne]; omega
                  have q47 : ((s[k].toNat : Int) == 47) = false := by rw [beq_eq_false_iff_ne]; omega
                  have HX : Hid (bareB s[k] = false) := not_bare (fun h => by have := (bare_iff _).1 h; omega)
                  go_wp2_with fail
                  all_goals
                    first
                    | (exfalso; omega)
                    | (exfalso; simp only [Bool.not_eq_false', Bool.not_eq_true', decide_eq_true_eq, decide_eq_false_iff_not] at *; omega)
                    | (go_ret; exact ⟨ret_bool (by rw [HB.out, not_all_bytes k hkl HX.out]; simp), rfl⟩)
                · have q95 : ((s[k].toNat : Int) == 95) = false := by rw [beq_eq_false_iff_ne]; omega
                  have q45 : ((s[k].toNat : Int) == 45) = false := by rw [beq_eq_false_iff_ne]; omega
                  have q46 : ((s[k].toNat : Int) == 46) = false := by rw [beq_eq_false_iff_ne]; omega
                  have q47 : ((s[k].toNat : Int) == 47) = false := by rw [beq_eq_false_iff_ne]; omega
                  have HX : Hid (bareB s[k] = false) := not_bare (fun h => by have := (bare_iff _).1 h; omega)
                  go_wp2_with fail
                  all_goals
                    first
                    | (exfalso; omega)
                    | (exfalso; simp only [Bool.not_eq_false', Bool.not_eq_true', decide_eq_true_eq, decide_eq_false_iff_not] at *; omega)
                    | (go_ret; exact ⟨ret_bool (by rw [HB.out, not_all_bytes k hkl HX.out]; simp), rfl⟩)
                · have q95 : ((s[k].toNat : Int) == 95) = false := by rw [beq_eq_false_iff_ne]; omega
                  have q45 : ((s[k].toNat : Int) == 45) = false := by rw [beq_eq_false_iff_ne]; omega
                  have q46 : ((s[k].toNat : Int) == 46) = false := by rw [beq_eq_false_iff_ne]; omega
                  have q47 : ((s[k].toNat : Int) == 47) = false := by rw [beq_eq_false_iff_ne]; omega
                  have HX : Hid (bareB s[k] = false) := not_bare (fun h => by have := (bare_iff _).1 h; omega)
                  go_wp2_with fail
                  all_goals
                    first
                    | (exfalso; omega)
                    | (exfalso; simp only [Bool.not_eq_false', Bool.not_eq_true', decide_eq_true_eq, decide_eq_false_iff_not] at *; omega)
                    | (go_ret; exact ⟨ret_bool (by rw [HB.out, not_all_bytes k hkl HX.out]; simp), rfl⟩)
            · have HLL : Hid (letterB s[0] = true) := HL.out (by omega)
              go_wp2_with fail
              go_ret
              exact ⟨ret_bool (by rw [HB.out, HLL.out, HW.out, all_bytes (fun i h => HG.out i h (by omega))]; rfl), rfl⟩

end Go.Proofs.YtbmlmcoepmbelaaDoor
