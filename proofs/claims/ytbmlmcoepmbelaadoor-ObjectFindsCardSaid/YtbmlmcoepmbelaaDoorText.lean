/-
  Which texts, and which keys, may be.
-/
import Derived.Test.YtbmlmcoepmbelaaDoorVals
set_option linter.unusedVariables false
set_option linter.unusedSimpArgs false
namespace Go.Proofs.YtbmlmcoepmbelaaDoor
open Go.RowKit

def badByte (c : Nat) : Bool := (decide (c < 32) || decide (126 < c)) && (!decide (c = 9)) && (!decide (c = 10))
def textB (s : ByteArray) : Bool := decide (s.size ≤ 65536) && s.data.toList.all fun c => !badByte c.toNat
def noBad (s : ByteArray) (j : Nat) : Bool := (s.data.toList.take j).all fun c => !badByte c.toNat
theorem noBad_zero (s : ByteArray) : noBad s 0 = true := by simp [noBad]
theorem noBad_succ (s : ByteArray) (j : Nat) (h : j < s.size) : noBad s (j + 1) = (noBad s j && !badByte (s[j]).toNat) := by
  unfold noBad
  rw [List.take_succ_eq_append_getElem (by simpa using h), List.all_append]
  simp
  rfl

theorem textB_bad (s : ByteArray) (j : Nat) (h : j < s.size) (hb : badByte (s[j]).toNat = true) : textB s = false := by
  unfold textB
  rw [Bool.and_eq_false_iff]
  right
  rw [List.all_eq_false]
  exact ⟨s[j], by simp [ByteArray.getElem_eq_getElem_data], by simp [hb]⟩
theorem textB_good (s : ByteArray) (h : noBad s s.size = true) : textB s = decide (s.size ≤ 65536) := by
  unfold textB
  unfold noBad at h
  rw [List.take_of_length_le (by simp)] at h
  rw [h, Bool.and_true]
theorem textB_long (s : ByteArray) (h : 65536 < s.size) : textB s = false := by
  unfold textB
  rw [decide_eq_false (by omega), Bool.false_and]

theorem byte_cases (c : Nat) : (badByte c = false ∧ (c : Int) < 32 ∧ ((c : Int) != 9) = false) ∨ (badByte c = false ∧ (c : Int) < 32 ∧ ((c : Int) != 9) = true ∧ ((c : Int) != 10) = false) ∨ (badByte c = false ∧ 32 ≤ (c : Int) ∧ (c : Int) ≤ 126) ∨
    (badByte c = true ∧ (c : Int) < 32 ∧ ((c : Int) != 9) = true ∧ ((c : Int) != 10) = true) ∨ (badByte c = true ∧ 126 < (c : Int) ∧ ((c : Int) != 9) = true ∧ ((c : Int) != 10) = true) := by
  simp only [badByte, bne_iff_ne, bne_eq_false_iff_eq, Bool.and_eq_true, Bool.or_eq_true, Bool.and_eq_false_iff, Bool.or_eq_false_iff, decide_eq_true_eq, decide_eq_false_iff_not, Bool.not_eq_true', Bool.not_eq_false', ne_eq]
  omega

set_option maxHeartbeats 400000 in
theorem rText_any (s : ByteArray) (hs : s.size ≤ 140737488355328) (w : World) :
    Calls Tryd.prog 74 #[.string s] w fun e w' => e = .returned (.bool (textB s)) ∧ w = w' := by
  have HG := Lib.hid (textB_good s)
  go_enter Tryd.func74, Tryd.ntmps74
  go_wp2_with fail
  go_loop [3] (fun vi => ∃ j : Nat, j ≤ s.size ∧ vi = .int .i64 j ∧ noBad s j = true) (fun vi => s.size - (intOf vi).toNat)
  case atStart => exact ⟨0, by omega, rfl, noBad_zero s⟩
  case round =>
    obtain ⟨j, hj, rfl, hb⟩ := hrel
    have HB := Lib.hid hb
    clear hb
    by_cases hjl : j < s.size
    · have HS := Lib.hid (noBad_succ s j hjl)
      have HT := Lib.hid (textB_bad s j hjl)
      rcases byte_cases (s[j]).toNat with ⟨hb, q1, q2⟩ | ⟨hb, q1, q2, q3⟩ | ⟨hb, q1, q2⟩ | ⟨hb, q1, q2, q3⟩ | ⟨hb, q1, q2, q3⟩
      all_goals
        have HC := Lib.hid hb
        clear hb
        go_wp2_with fail
        first
          | (go_ret; exact ⟨ret_bool (HT.out HC.out).symm, rfl⟩)
          | (go_round
             case rel => exact ⟨j + 1, by omega, by go_num, by rw [HS.out, HB.out, HC.out]; rfl⟩
             case measure => simp [intOf]; omega)
    · obtain rfl : j = s.size := by omega
      go_wp2_with fail
      go_ret
      exact ⟨ret_bool (by rw [HG.out HB.out]; exact decide_eq_decide.2 (by omega)), rfl⟩

set_option maxHeartbeats 400000 in
theorem tText_any (s : ByteArray) (hs : s.size ≤ 140737488355328) (w : World) :
    Calls Tryd.prog 71 #[.string s] w fun e w' => e = .returned (.bool (textB s)) ∧ w = w' := by
  have HG := Lib.hid (textB_good s)
  have HL := Lib.hid (textB_long s)
  by_cases hlen : 65536 < s.size
  · go_enter Tryd.func71, Tryd.ntmps71
    go_wp2_with fail
    go_ret
    exact ⟨ret_bool (HL.out hlen).symm, rfl⟩
  go_enter Tryd.func71, Tryd.ntmps71
  go_wp2_with fail
  go_loop [10] (fun vi => ∃ j : Nat, j ≤ s.size ∧ vi = .int .i64 j ∧ noBad s j = true) (fun vi => s.size - (intOf vi).toNat)
  case atStart => exact ⟨0, by omega, rfl, noBad_zero s⟩
  case round =>
    obtain ⟨j, hj, rfl, hb⟩ := hrel
    have HB := Lib.hid hb
    clear hb
    by_cases hjl : j < s.size
    · have HS := Lib.hid (noBad_succ s j hjl)
      have HT := Lib.hid (textB_bad s j hjl)
      rcases byte_cases (s[j]).toNat with ⟨hb, q1, q2⟩ | ⟨hb, q1, q2, q3⟩ | ⟨hb, q1, q2⟩ | ⟨hb, q1, q2, q3⟩ | ⟨hb, q1, q2, q3⟩
      all_goals
        have HC := Lib.hid hb
        clear hb
        go_wp2_with fail
        first
          | (go_ret; exact ⟨ret_bool (HT.out HC.out).symm, rfl⟩)
          | (go_round
             case rel => exact ⟨j + 1, by omega, by go_num, by rw [HS.out, HB.out, HC.out]; rfl⟩
             case measure => simp [intOf]; omega)
    · obtain rfl : j = s.size := by omega
      go_wp2_with fail
      go_ret
      exact ⟨ret_bool (by rw [HG.out HB.out]; exact (decide_eq_true (by omega)).symm), rfl⟩

/-- May a key be so? -/
def badKey (c : Nat) : Bool := decide (c < 32) || decide (126 < c)
def keyB (s : ByteArray) : Bool := decide (1 ≤ s.size) && decide (s.size ≤ 256) && s.data.toList.all fun c => !badKey c.toNat
def noBadKey (s : ByteArray) (j : Nat) : Bool := (s.data.toList.take j).all fun c => !badKey c.toNat
theorem noBadKey_zero (s : ByteArray) : noBadKey s 0 = true := by simp [noBadKey]
theorem noBadKey_succ (s : ByteArray) (j : Nat) (h : j < s.size) : noBadKey s (j + 1) = (noBadKey s j && !badKey (s[j]).toNat) := by
  unfold noBadKey
  rw [List.take_succ_eq_append_getElem (by simpa using h), List.all_append]
  simp
  rfl
theorem keyB_bad (s : ByteArray) (j : Nat) (h : j < s.size) (hb : badKey (s[j]).toNat = true) : keyB s = false := by
  unfold keyB
  rw [Bool.and_eq_false_iff]
  right
  rw [List.all_eq_false]
  exact ⟨s[j], by simp [ByteArray.getElem_eq_getElem_data], by simp [hb]⟩
theorem keyB_good (s : ByteArray) (h : noBadKey s s.size = true) : keyB s = (decide (1 ≤ s.size) && decide (s.size ≤ 256)) := by
  unfold keyB
  unfold noBadKey at h
  rw [List.take_of_length_le (by simp)] at h
  rw [h, Bool.and_true]

theorem key_cases (c : Nat) : (badKey c = false ∧ 32 ≤ (c : Int) ∧ (c : Int) ≤ 126) ∨ (badKey c = true ∧ (c : Int) < 32) ∨ (badKey c = true ∧ 126 < (c : Int)) := by
  simp only [badKey, Bool.or_eq_true, Bool.or_eq_false_iff, decide_eq_true_eq, decide_eq_false_iff_not]
  omega

set_option maxHeartbeats 400000 in
theorem rKey_any (s : ByteArray) (hs : s.size ≤ 140737488355328) (w : World) :
    Calls Tryd.prog 75 #[.string s] w fun e w' => e = .returned (.bool (keyB s)) ∧ w = w' := by
  have HG := Lib.hid (keyB_good s)
  go_enter Tryd.func75, Tryd.ntmps75
  go_wp2_with fail
  go_loop [3] (fun vi => ∃ j : Nat, j ≤ s.size ∧ vi = .int .i64 j ∧ noBadKey s j = true) (fun vi => s.size - (intOf vi).toNat)
  case atStart => exact ⟨0, by omega, rfl, noBadKey_zero s⟩
  case round =>
    obtain ⟨j, hj, rfl, hb⟩ := hrel
    have HB := Lib.hid hb
    clear hb
    by_cases hjl : j < s.size
    · have HS := Lib.hid (noBadKey_succ s j hjl)
      have HT := Lib.hid (keyB_bad s j hjl)
      rcases key_cases (s[j]).toNat with ⟨hb, q1, q2⟩ | ⟨hb, q1⟩ | ⟨hb, q1⟩
      all_goals
        have HC := Lib.hid hb
        clear hb
        go_wp2_with fail
        first
          | (go_ret; exact ⟨ret_bool (HT.out HC.out).symm, rfl⟩)
          | (go_round
             case rel => exact ⟨j + 1, by omega, by go_num, by rw [HS.out, HB.out, HC.out]; rfl⟩
             case measure => simp [intOf]; omega)
    · obtain rfl : j = s.size := by omega
      by_cases h1 : 1 ≤ s.size
      · go_wp2_with fail
        go_ret
        exact ⟨ret_bool (by rw [HG.out HB.out, decide_eq_true h1, Bool.true_and]; exact decide_eq_decide.2 (by omega)), rfl⟩
      · go_wp2_with fail
        go_ret
        exact ⟨ret_bool (by rw [HG.out HB.out, decide_eq_false h1]; rfl), rfl⟩

end Go.Proofs.YtbmlmcoepmbelaaDoor
