/-
  Bare texts: package scalar's letter, digit, bare, Bare, and the reference's Bare.
-/
import Derived.Test.YtbmlmcoepmbelaaDoorBytes
set_option linter.unusedVariables false
set_option linter.unusedSimpArgs false
namespace Go.Proofs.YtbmlmcoepmbelaaDoor
open Go.RowKit

def letterB (c : UInt8) : Bool := (decide (97 ≤ c.toNat) && decide (c.toNat ≤ 122)) || (decide (65 ≤ c.toNat) && decide (c.toNat ≤ 90))
def digitB (c : UInt8) : Bool := decide (48 ≤ c.toNat) && decide (c.toNat ≤ 57)
def markB (c : UInt8) : Bool := decide (c.toNat = 95) || decide (c.toNat = 45) || decide (c.toNat = 46) || decide (c.toNat = 47)
def bareB (c : UInt8) : Bool := letterB c || digitB c || markB c
/-- A text that may be written as it is. -/
def bareL : List UInt8 → Bool
  | [] => false
  | c :: l => letterB c && !(decide (c :: l = [110, 117, 108, 108]) || decide (c :: l = [116, 114, 117, 101]) || decide (c :: l = [102, 97, 108, 115, 101])) && (c :: l).all bareB

theorem cletter_any (c : UInt8) (w : World) : Calls Tryd.prog 58 #[.int .u8 c.toNat] w fun e w' => e = .returned (.bool (letterB c)) ∧ w' = w := by
  have hc := c.toNat_lt
  go_enter Tryd.func58, Tryd.ntmps58
  go_wp2_with fail
  all_goals
    go_ret
    refine ⟨ret_bool ?_, rfl⟩
    rw [Bool.eq_iff_iff]
    simp only [letterB, Bool.or_eq_true, Bool.and_eq_true, decide_eq_true_eq, Bool.false_eq_true, true_iff, false_iff]
    omega

theorem cdigit_any (c : UInt8) (w : World) : Calls Tryd.prog 78 #[.int .u8 c.toNat] w fun e w' => e = .returned (.bool (digitB c)) ∧ w' = w := by
  have hc := c.toNat_lt
  go_enter Tryd.func78, Tryd.ntmps78
  go_wp2_with fail
  all_goals
    go_ret
    refine ⟨ret_bool ?_, rfl⟩
    rw [Bool.eq_iff_iff]
    simp only [digitB, Bool.or_eq_true, Bool.and_eq_true, decide_eq_true_eq, Bool.false_eq_true, true_iff, false_iff]
    omega

theorem cbare_any (c : UInt8) (w : World) : Calls Tryd.prog 59 #[.int .u8 c.toNat] w fun e w' => e = .returned (.bool (bareB c)) ∧ w' = w := by
  have hc := c.toNat_lt
  cases hl : letterB c with
  | true =>
    have HL := Lib.hid hl
    clear hl
    go_enter Tryd.func59, Tryd.ntmps59
    go_wp2_with (go_at_call 58; refine (cletter_any _ _).mono ?_; rintro e w1 ⟨he, rfl⟩; rw [HL.out] at he; subst he)
    go_ret
    exact ⟨ret_bool (by rw [bareB, HL.out]; rfl), rfl⟩
  | false =>
    have HL := Lib.hid hl
    clear hl
    cases hd : digitB c with
    | true =>
      have HD := Lib.hid hd
      clear hd
      go_enter Tryd.func59, Tryd.ntmps59
      go_wp2_with (first
        | (go_at_call 58; refine (cletter_any _ _).mono ?_; rintro e w1 ⟨he, rfl⟩; rw [HL.out] at he; subst he)
        | (go_at_call 78; refine (cdigit_any _ _).mono ?_; rintro e w1 ⟨he, rfl⟩; rw [HD.out] at he; subst he))
      go_ret
      exact ⟨ret_bool (by rw [bareB, HL.out, HD.out]; rfl), rfl⟩
    | false =>
      have HD := Lib.hid hd
      clear hd
      have hm : Hid (bareB c = markB c) := by show _ = _; rw [bareB, HL.out, HD.out]; rfl
      go_enter Tryd.func59, Tryd.ntmps59
      go_wp2_with (first
        | (go_at_call 58; refine (cletter_any _ _).mono ?_; rintro e w1 ⟨he, rfl⟩; rw [HL.out] at he; subst he)
        | (go_at_call 78; refine (cdigit_any _ _).mono ?_; rintro e w1 ⟨he, rfl⟩; rw [HD.out] at he; subst he))
      all_goals
        go_ret
        refine ⟨ret_bool ?_, rfl⟩
        rw [hm.out]
        rw [Bool.eq_iff_iff]
        simp only [markB, Bool.or_eq_true, decide_eq_true_eq, beq_iff_eq, Bool.false_eq_true, true_iff, false_iff]
        omega

theorem str_is (s : ByteArray) (l : List UInt8) : (s.toList == l) = decide (s.data.toList = l) := by
  rw [Lib.toList_data]
  by_cases h : s.data.toList = l
  · rw [h]; simp
  · rw [decide_eq_false h]; exact beq_eq_false_iff_ne.2 h
theorem str_head (s : ByteArray) (h : 0 < s.size) : s.data.toList = s[0] :: s.data.toList.drop 1 := by
  have := drop_step s 0 h
  simpa using this
theorem all_bytes {s : ByteArray} {p : UInt8 → Bool} (h : ∀ i (hi : i < s.size), p s[i] = true) : s.data.toList.all p = true := by
  rw [List.all_eq_true]
  intro b hb
  obtain ⟨i, hi, e⟩ := List.getElem_of_mem hb
  have hi2 : i < s.size := by rw [Lib.size_eq]; exact hi
  have h2 : s[i] = s.data.toList[i] := by simp [ByteArray.getElem_eq_getElem_data]
  rw [← e, ← h2]
  exact h i hi2
theorem not_all_bytes {s : ByteArray} {p : UInt8 → Bool} (i : Nat) (hi : i < s.size) (h : p s[i] = false) : s.data.toList.all p = false := by
  cases hx : s.data.toList.all p with
  | false => rfl
  | true =>
    have hi2 : i < s.data.toList.length := by rw [← Lib.size_eq]; exact hi
    have h2 : s[i] = s.data.toList[i] := by simp [ByteArray.getElem_eq_getElem_data]
    rw [h2] at h
    rw [List.all_eq_true.1 hx _ (List.getElem_mem hi2)] at h
    cases h
/-- A word of something else. -/
def wordsB (l : List UInt8) : Bool := decide (l = [110, 117, 108, 108]) || decide (l = [116, 114, 117, 101]) || decide (l = [102, 97, 108, 115, 101])
theorem bareL_some (s : ByteArray) (h : 0 < s.size) : bareL s.data.toList = (letterB s[0] && !wordsB s.data.toList && s.data.toList.all bareB) := by
  have e := str_head s h
  conv => lhs; rw [e]
  rw [bareL, ← e]
  rfl

set_option maxRecDepth 100000 in
set_option maxHeartbeats 1000000 in
theorem cBare_any (s : ByteArray) (hs : s.size ≤ 140737488355328) (w : World) : Calls Tryd.prog 34 #[.string s] w fun e w' => e = .returned (.bool (bareL s.data.toList)) ∧ w' = w := by
  by_cases h0 : s.size = 0
  · have hse : s = ⟨#[]⟩ := by
      rw [← Lib.mk_data s]
      have : s.data.toList = [] := List.eq_nil_of_length_eq_zero (by rw [← Lib.size_eq]; exact h0)
      rw [this]
    subst hse
    go_enter Tryd.func34, Tryd.ntmps34
    go_wp2_with fail
    go_ret
    exact ⟨rfl, rfl⟩
  · have h0' : 0 < s.size := by omega
    have hne : (s.toList == []) = false := by
      rw [str_is]
      exact decide_eq_false (fun e => h0 (by rw [Lib.size_eq, e]; rfl))
    have hne2 : s.toList.isEmpty = false := by
      cases hx : s.toList with
      | nil => rw [hx] at hne; cases hne
      | cons _ _ => rfl
    have HB := Lib.hid (bareL_some s h0')
    clear h0
    cases hl : letterB s[0] with
    | false =>
      have HL := Lib.hid hl
      clear hl
      go_enter Tryd.func34, Tryd.ntmps34
      go_wp2_with (go_at_call 58; refine (cletter_any _ _).mono ?_; rintro e w1 ⟨he, rfl⟩; rw [HL.out] at he; subst he)
      go_ret
      exact ⟨ret_bool (by rw [HB.out, HL.out]; rfl), rfl⟩
    | true =>
      have HL := Lib.hid hl
      clear hl
      have h1 := str_is s [110, 117, 108, 108]
      have h2 := str_is s [116, 114, 117, 101]
      have h3 := str_is s [102, 97, 108, 115, 101]
      by_cases e1 : s.data.toList = [110, 117, 108, 108]
      · rw [decide_eq_true e1] at h1
        have HW : Hid (wordsB s.data.toList = true) := by show _ = _; rw [e1]; rfl
        clear e1 h2 h3
        go_enter Tryd.func34, Tryd.ntmps34
        go_wp2_with (go_at_call 58; refine (cletter_any _ _).mono ?_; rintro e w1 ⟨he, rfl⟩; rw [HL.out] at he; subst he)
        go_ret
        exact ⟨ret_bool (by rw [HB.out, HW.out]; simp), rfl⟩
      · rw [decide_eq_false e1] at h1
        by_cases e2 : s.data.toList = [116, 114, 117, 101]
        · rw [decide_eq_true e2] at h2
          have HW : Hid (wordsB s.data.toList = true) := by show _ = _; rw [e2]; rfl
          clear e1 e2 h3
          go_enter Tryd.func34, Tryd.ntmps34
          go_wp2_with (go_at_call 58; refine (cletter_any _ _).mono ?_; rintro e w1 ⟨he, rfl⟩; rw [HL.out] at he; subst he)
          go_ret
          exact ⟨ret_bool (by rw [HB.out, HW.out]; simp), rfl⟩
        · rw [decide_eq_false e2] at h2
          by_cases e3 : s.data.toList = [102, 97, 108, 115, 101]
          · rw [decide_eq_true e3] at h3
            have HW : Hid (wordsB s.data.toList = true) := by show _ = _; rw [e3]; rfl
            clear e1 e2 e3
            go_enter Tryd.func34, Tryd.ntmps34
            go_wp2_with (go_at_call 58; refine (cletter_any _ _).mono ?_; rintro e w1 ⟨he, rfl⟩; rw [HL.out] at he; subst he)
            go_ret
            exact ⟨ret_bool (by rw [HB.out, HW.out]; simp), rfl⟩
          · rw [decide_eq_false e3] at h3
            have HW : Hid (wordsB s.data.toList = false) := by show _ = _; rw [wordsB, decide_eq_false e1, decide_eq_false e2, decide_eq_false e3]; rfl
            clear e1 e2 e3
            go_enter Tryd.func34, Tryd.ntmps34
            go_wp2_with (go_at_call 58; refine (cletter_any _ _).mono ?_; rintro e w1 ⟨he, rfl⟩; rw [HL.out] at he; subst he)
            go_loop [26] (fun vi => ∃ k : Nat, k ≤ s.size ∧ vi = .int .i64 k ∧ Hid (∀ i (h : i < s.size), i < k → bareB s[i] = true)) (fun vi => s.size - (intOf vi).toNat)
            case atStart => exact ⟨0, Nat.zero_le _, rfl, fun i h hi => absurd hi (Nat.not_lt_zero i)⟩
            case round =>
              obtain ⟨k, hk, rfl, HG⟩ := hrel
              by_cases hkl : k < s.size
              · cases hb : bareB s[k] with
                | false =>
                  have HBB := Lib.hid hb
                  clear hb
                  go_wp2_with (go_at_call 59; refine (cbare_any _ _).mono ?_; rintro e w1 ⟨he, rfl⟩; rw [HBB.out] at he; subst he)
                  go_ret
                  exact ⟨ret_bool (by rw [HB.out, not_all_bytes k hkl HBB.out]; simp), rfl⟩
                | true =>
                  have HBB := Lib.hid hb
                  clear hb
                  have HG2 : Hid (∀ i (h : i < s.size), i < k + 1 → bareB s[i] = true) := fun i h hi => by
                    by_cases e : i = k
                    · subst e; exact HBB.out
                    · exact HG.out i h (by omega)
                  go_wp2_with (go_at_call 59; refine (cbare_any _ _).mono ?_; rintro e w1 ⟨he, rfl⟩; rw [HBB.out] at he; subst he)
                  go_round
                  case rel => exact ⟨k + 1, by omega, by go_num, HG2.out⟩
                  case measure => simp [intOf]; omega
              · go_wp2_with fail
                go_ret
                exact ⟨ret_bool (by rw [HB.out, HL.out, HW.out, all_bytes (fun i hi => HG.out i hi (by omega))]; rfl), rfl⟩

end Go.Proofs.YtbmlmcoepmbelaaDoor
