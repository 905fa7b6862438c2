/-
  A word: package path's, the reference's.
-/
import Derived.Test.YtlniokpekcoodaaGreatDoorValOverM
import Derived.Test.YtlniokpekcoodaaGreatDoorShelf
import Derived.Test.YtlniokpekcoodaaGreatDoorOverZM
import Derived.Lib.Hide
set_option linter.unusedVariables false
set_option linter.unusedSimpArgs false
namespace Go.Proofs.YtlniokpekcoodaaGreatDoor
open Go.RowKit

theorem class_word (c : Nat) : (65 ≤ c ∧ c ≤ 90) ∨ (97 ≤ c ∧ c ≤ 122) ∨ (48 ≤ c ∧ c ≤ 57) ∨ (c = 95) ∨ (c = 45) ∨ (c < 45) ∨ (45 < c ∧ c < 48) ∨ (57 < c ∧ c < 65) ∨ (90 < c ∧ c < 95) ∨ (c = 96) ∨ (122 < c) := by omega
theorem in_word (c : UInt8) : inWord c = true ↔ (65 ≤ c.toNat ∧ c.toNat ≤ 90) ∨ (97 ≤ c.toNat ∧ c.toNat ≤ 122) ∨ (48 ≤ c.toNat ∧ c.toNat ≤ 57) ∨ c.toNat = 95 ∨ c.toNat = 45 := by
  simp only [inWord, Bool.or_eq_true, Bool.and_eq_true, decide_eq_true_eq, beq_iff_eq, UInt8.le_iff_toNat_le, ← UInt8.toNat_inj]
  simp only [show (97 : UInt8).toNat = 97 from rfl, show (122 : UInt8).toNat = 122 from rfl, show (65 : UInt8).toNat = 65 from rfl, show (90 : UInt8).toNat = 90 from rfl, show (48 : UInt8).toNat = 48 from rfl, show (57 : UInt8).toNat = 57 from rfl, show (95 : UInt8).toNat = 95 from rfl, show (45 : UInt8).toNat = 45 from rfl]
  omega
theorem in_strange (r : Nat) : strangeR r = false ↔ (65 ≤ r ∧ r ≤ 90) ∨ (97 ≤ r ∧ r ≤ 122) ∨ (48 ≤ r ∧ r ≤ 57) ∨ r = 95 ∨ r = 45 := by
  unfold strangeR
  simp only [Bool.and_eq_false_iff, Bool.not_eq_false', Bool.or_eq_true, Bool.and_eq_true, decide_eq_true_eq, bne_eq_false_iff_eq]
  omega
theorem wordS_data (s : ByteArray) (h0 : 0 < s.size) (h1 : s.size ≤ 256) : wordL s.data.toList = s.data.toList.all inWord := by
  have hl := Lib.size_eq s
  unfold wordL
  rw [decide_eq_true (by omega), decide_eq_true (by omega), Bool.and_true, Bool.and_true]
theorem wordS_long (s : ByteArray) (h1 : ¬ s.size ≤ 256) : wordL s.data.toList = false := by
  have hl := Lib.size_eq s
  unfold wordL
  rw [decide_eq_false (show ¬ s.data.toList.length ≤ 256 by omega), Bool.and_false]
theorem wordS_empty (s : ByteArray) (h1 : s.size = 0) : wordL s.data.toList = false := by
  have hl := Lib.size_eq s
  unfold wordL
  rw [decide_eq_false (show ¬ 0 < s.data.toList.length by omega), Bool.and_false, Bool.false_and]
theorem all_upto {s : ByteArray} {p : UInt8 → Bool} (h : ∀ i (hi : i < s.size), p s[i] = true) : s.data.toList.all p = true := by
  rw [List.all_eq_true]
  intro b hb
  obtain ⟨i, hi, e⟩ := List.getElem_of_mem hb
  have hi2 : i < s.size := by rw [Lib.size_eq]; exact hi
  have h2 : s[i] = s.data.toList[i] := by simp [ByteArray.getElem_eq_getElem_data]
  rw [← e, ← h2]
  exact h i hi2
theorem not_upto {s : ByteArray} {p : UInt8 → Bool} (i : Nat) (hi : i < s.size) (h : p s[i] = false) : s.data.toList.all p = false := by
  cases hx : s.data.toList.all p with
  | false => rfl
  | true =>
    have hi2 : i < s.data.toList.length := by rw [← Lib.size_eq]; exact hi
    have h2 : s[i] = s.data.toList[i] := by simp [ByteArray.getElem_eq_getElem_data]
    rw [h2] at h
    rw [List.all_eq_true.1 hx _ (List.getElem_mem hi2)] at h
    cases h

set_option maxRecDepth 100000 in
set_option maxHeartbeats 4000000 in
/-- 'strange'. -/
theorem strange_pays (w : World) : PredAt Tryz.prog 106 #[] encR strangeR w := fun W r _ => by
  unfold FnGives
  have HX := Lib.hid (in_strange r)
  rcases class_word r with ⟨a1, a2⟩ | ⟨a1, a2⟩ | ⟨a1, a2⟩ | a1 | a1 | a1 | ⟨a1, a2⟩ | ⟨a1, a2⟩ | ⟨a1, a2⟩ | a1 | a1
  · have q95 : ((r : Int) == 95) = false := by rw [beq_eq_false_iff_ne]; omega
    have q45 : ((r : Int) == 45) = false := by rw [beq_eq_false_iff_ne]; omega
    have p95 : ((r : Int) != 95) = true := by rw [bne_iff_ne, ne_eq]; omega
    have p45 : ((r : Int) != 45) = true := by rw [bne_iff_ne, ne_eq]; omega
    have HY : Hid (strangeR r = false) := by show _ = _; exact HX.out.2 (by omega)
    clear HX
    go_enter Tryz.func106, Tryz.ntmps106
    go_wp2_with fail
    all_goals
      first
      | (exfalso; omega)
      | (go_ret; exact ⟨ret_bool (by first | (rw [HY.out]; done) | (rw [HY.out]; simp; omega)), 0, rfl⟩)
  · have q95 : ((r : Int) == 95) = false := by rw [beq_eq_false_iff_ne]; omega
    have q45 : ((r : Int) == 45) = false := by rw [beq_eq_false_iff_ne]; omega
    have p95 : ((r : Int) != 95) = true := by rw [bne_iff_ne, ne_eq]; omega
    have p45 : ((r : Int) != 45) = true := by rw [bne_iff_ne, ne_eq]; omega
    have HY : Hid (strangeR r = false) := by show _ = _; exact HX.out.2 (by omega)
    clear HX
    go_enter Tryz.func106, Tryz.ntmps106
    go_wp2_with fail
    all_goals
      first
      | (exfalso; omega)
      | (go_ret; exact ⟨ret_bool (by first | (rw [HY.out]; done) | (rw [HY.out]; simp; omega)), 0, rfl⟩)
  · have q95 : ((r : Int) == 95) = false := by rw [beq_eq_false_iff_ne]; omega
    have q45 : ((r : Int) == 45) = false := by rw [beq_eq_false_iff_ne]; omega
    have p95 : ((r : Int) != 95) = true := by rw [bne_iff_ne, ne_eq]; omega
    have p45 : ((r : Int) != 45) = true := by rw [bne_iff_ne, ne_eq]; omega
    have HY : Hid (strangeR r = false) := by show _ = _; exact HX.out.2 (by omega)
    clear HX
    go_enter Tryz.func106, Tryz.ntmps106
    go_wp2_with fail
    all_goals
      first
      | (exfalso; omega)
      | (go_ret; exact ⟨ret_bool (by first | (rw [HY.out]; done) | (rw [HY.out]; simp; omega)), 0, rfl⟩)
  · have q95 : ((r : Int) == 95) = true := by rw [beq_iff_eq]; omega
    have q45 : ((r : Int) == 45) = false := by rw [beq_eq_false_iff_ne]; omega
    have p95 : ((r : Int) != 95) = false := by rw [bne_eq_false_iff_eq]; omega
    have p45 : ((r : Int) != 45) = true := by rw [bne_iff_ne, ne_eq]; omega
    have HY : Hid (strangeR r = false) := by show _ = _; exact HX.out.2 (by omega)
    clear HX
    go_enter Tryz.func106, Tryz.ntmps106
    go_wp2_with fail
    all_goals
      first
      | (exfalso; omega)
      | (go_ret; exact ⟨ret_bool (by first | (rw [HY.out]; done) | (rw [HY.out]; simp; omega)), 0, rfl⟩)
  · have q95 : ((r : Int) == 95) = false := by rw [beq_eq_false_iff_ne]; omega
    have q45 : ((r : Int) == 45) = true := by rw [beq_iff_eq]; omega
    have p95 : ((r : Int) != 95) = true := by rw [bne_iff_ne, ne_eq]; omega
    have p45 : ((r : Int) != 45) = false := by rw [bne_eq_false_iff_eq]; omega
    have HY : Hid (strangeR r = false) := by show _ = _; exact HX.out.2 (by omega)
    clear HX
    go_enter Tryz.func106, Tryz.ntmps106
    go_wp2_with fail
    all_goals
      first
      | (exfalso; omega)
      | (go_ret; exact ⟨ret_bool (by first | (rw [HY.out]; done) | (rw [HY.out]; simp; omega)), 0, rfl⟩)
  · have q95 : ((r : Int) == 95) = false := by rw [beq_eq_false_iff_ne]; omega
    have q45 : ((r : Int) == 45) = false := by rw [beq_eq_false_iff_ne]; omega
    have p95 : ((r : Int) != 95) = true := by rw [bne_iff_ne, ne_eq]; omega
    have p45 : ((r : Int) != 45) = true := by rw [bne_iff_ne, ne_eq]; omega
    have HY : Hid (strangeR r = true) := by show _ = _; cases e : strangeR r with | true => rfl | false => exact absurd (HX.out.1 e) (by omega)
    clear HX
    go_enter Tryz.func106, Tryz.ntmps106
    go_wp2_with fail
    all_goals
      first
      | (exfalso; omega)
      | (go_ret; exact ⟨ret_bool (by first | (rw [HY.out]; done) | (rw [HY.out]; simp; omega)), 0, rfl⟩)
  · have q95 : ((r : Int) == 95) = false := by rw [beq_eq_false_iff_ne]; omega
    have q45 : ((r : Int) == 45) = false := by rw [beq_eq_false_iff_ne]; omega
    have p95 : ((r : Int) != 95) = true := by rw [bne_iff_ne, ne_eq]; omega
    have p45 : ((r : Int) != 45) = true := by rw [bne_iff_ne, ne_eq]; omega
    have HY : Hid (strangeR r = true) := by show _ = _; cases e : strangeR r with | true => rfl | false => exact absurd (HX.out.1 e) (by omega)
    clear HX
    go_enter Tryz.func106, Tryz.ntmps106
    go_wp2_with fail
    all_goals
      first
      | (exfalso; omega)
      | (go_ret; exact ⟨ret_bool (by first | (rw [HY.out]; done) | (rw [HY.out]; simp; omega)), 0, rfl⟩)
  · have q95 : ((r : Int) == 95) = false := by rw [beq_eq_false_iff_ne]; omega
    have q45 : ((r : Int) == 45) = false := by rw [beq_eq_false_iff_ne]; omega
    have p95 : ((r : Int) != 95) = true := by rw [bne_iff_ne, ne_eq]; omega
    have p45 : ((r : Int) != 45) = true := by rw [bne_iff_ne, ne_eq]; omega
    have HY : Hid (strangeR r = true) := by show _ = _; cases e : strangeR r with | true => rfl | false => exact absurd (HX.out.1 e) (by omega)
    clear HX
    go_enter Tryz.func106, Tryz.ntmps106
    go_wp2_with fail
    all_goals
      first
      | (exfalso; omega)
      | (go_ret; exact ⟨ret_bool (by first | (rw [HY.out]; done) | (rw [HY.out]; simp; omega)), 0, rfl⟩)
  · have q95 : ((r : Int) == 95) = false := by rw [beq_eq_false_iff_ne]; omega
    have q45 : ((r : Int) == 45) = false := by rw [beq_eq_false_iff_ne]; omega
    have p95 : ((r : Int) != 95) = true := by rw [bne_iff_ne, ne_eq]; omega
    have p45 : ((r : Int) != 45) = true := by rw [bne_iff_ne, ne_eq]; omega
    have HY : Hid (strangeR r = true) := by show _ = _; cases e : strangeR r with | true => rfl | false => exact absurd (HX.out.1 e) (by omega)
    clear HX
    go_enter Tryz.func106, Tryz.ntmps106
    go_wp2_with fail
    all_goals
      first
      | (exfalso; omega)
      | (go_ret; exact ⟨ret_bool (by first | (rw [HY.out]; done) | (rw [HY.out]; simp; omega)), 0, rfl⟩)
  · have q95 : ((r : Int) == 95) = false := by rw [beq_eq_false_iff_ne]; omega
    have q45 : ((r : Int) == 45) = false := by rw [beq_eq_false_iff_ne]; omega
    have p95 : ((r : Int) != 95) = true := by rw [bne_iff_ne, ne_eq]; omega
    have p45 : ((r : Int) != 45) = true := by rw [bne_iff_ne, ne_eq]; omega
    have HY : Hid (strangeR r = true) := by show _ = _; cases e : strangeR r with | true => rfl | false => exact absurd (HX.out.1 e) (by omega)
    clear HX
    go_enter Tryz.func106, Tryz.ntmps106
    go_wp2_with fail
    all_goals
      first
      | (exfalso; omega)
      | (go_ret; exact ⟨ret_bool (by first | (rw [HY.out]; done) | (rw [HY.out]; simp; omega)), 0, rfl⟩)
  · have q95 : ((r : Int) == 95) = false := by rw [beq_eq_false_iff_ne]; omega
    have q45 : ((r : Int) == 45) = false := by rw [beq_eq_false_iff_ne]; omega
    have p95 : ((r : Int) != 95) = true := by rw [bne_iff_ne, ne_eq]; omega
    have p45 : ((r : Int) != 45) = true := by rw [bne_iff_ne, ne_eq]; omega
    have HY : Hid (strangeR r = true) := by show _ = _; cases e : strangeR r with | true => rfl | false => exact absurd (HX.out.1 e) (by omega)
    clear HX
    go_enter Tryz.func106, Tryz.ntmps106
    go_wp2_with fail
    all_goals
      first
      | (exfalso; omega)
      | (go_ret; exact ⟨ret_bool (by first | (rw [HY.out]; done) | (rw [HY.out]; simp; omega)), 0, rfl⟩)

set_option maxRecDepth 100000 in
set_option maxHeartbeats 1000000 in
theorem pword_any (s : ByteArray) (hs : s.size ≤ 140737488355328) (w : World) : Calls Tryz.prog 81 #[.string s] w fun e w' => e = .returned (.bool (wordL s.data.toList)) ∧ Below w.heap.size w w' := by
  by_cases h0 : s.size = 0
  · have HW := Lib.hid (wordS_empty s h0)
    have hse : s = ⟨#[]⟩ := by
      rw [← Lib.mk_data s]
      have : s.data.toList = [] := List.eq_nil_of_length_eq_zero (by rw [← Lib.size_eq]; exact h0)
      rw [this]
    subst hse
    go_enter Tryz.func81, Tryz.ntmps81
    go_wp2_with fail
    go_ret
    exact ⟨ret_bool (by rw [HW.out]), Below.refl _ _⟩
  · have hne : (s.toList == []) = false := by
      rw [Lib.toList_data, beq_eq_false_iff_ne]
      exact fun e => h0 (by rw [Lib.size_eq, e]; rfl)
    have hne2 : s.toList.isEmpty = false := by
      cases hx : s.toList with
      | nil => rw [hx] at hne; cases hne
      | cons _ _ => rfl
    have z2 : ¬ s = ByteArray.empty := fun e => by rw [e] at h0; exact h0 rfl
    have h0' : 0 < s.size := by omega
    by_cases h1 : s.size ≤ 256
    · have HC := fun W : World => Tryz.strings_ContainsFunc 106 #[] (enters_of Tryz.func106 (by kernel_rfl) rfl) strangeR s W (strange_pays W)
      have HE : Hid (decide (0 ≤ Lib.idxFunc strangeR true s) = !wordL s.data.toList) := by show _ = _; rw [idx_word, wordS_data s h0' h1]
      obtain ⟨b, hb⟩ : ∃ b, b = wordL s.data.toList := ⟨_, rfl⟩
      rw [← hb] at HE ⊢
      clear hb
      have hi : (s.size : Int) ≤ 256 := by omega
      go_enter Tryz.func81, Tryz.ntmps81
      cases b <;> (
        go_wp2_with (go_at_call 107; refine (HC _).mono ?_; rintro e w1 ⟨he, hb1⟩; rw [HE.out] at he; subst he)
        go_ret
        exact ⟨rfl, hb1⟩)
    · have HW := Lib.hid (wordS_long s h1)
      have hi : ¬ (s.size : Int) ≤ 256 := by omega
      go_enter Tryz.func81, Tryz.ntmps81
      go_wp2_with fail
      go_ret
      exact ⟨ret_bool (by rw [HW.out]), Below.refl _ _⟩

set_option maxRecDepth 100000 in
set_option maxHeartbeats 4000000 in
theorem r2Word_any (s : ByteArray) (hs : s.size ≤ 140737488355328) (w : World) : Calls Tryz.prog 13 #[.string s] w fun e w' => e = .returned (.bool (wordL s.data.toList)) ∧ w' = w := by
  have HW0 := Lib.hid (wordS_empty s)
  have HW1 := Lib.hid (wordS_long s)
  have HW2 := Lib.hid (wordS_data s)
  have HN : Hid (s.data.toList.all inWord = false → wordL s.data.toList = false) := fun h => by unfold wordL; rw [h]; rfl
  go_enter Tryz.func13, Tryz.ntmps13
  go_wp2_with fail
  go_loop [3] (fun vi => ∃ k : Nat, k ≤ s.size ∧ vi = .int .i64 k ∧ Hid (∀ i (h : i < s.size), i < k → inWord s[i] = true)) (fun vi => s.size - (intOf vi).toNat)
  case atStart => exact ⟨0, Nat.zero_le _, rfl, fun i h hi => absurd hi (Nat.not_lt_zero i)⟩
  case round =>
    obtain ⟨k, hk, rfl, HG⟩ := hrel
    by_cases hkl : k < s.size
    · have hc := s[k].toNat_lt
      rcases class_word s[k].toNat with ⟨a1, a2⟩ | ⟨a1, a2⟩ | ⟨a1, a2⟩ | a1 | a1 | a1 | ⟨a1, a2⟩ | ⟨a1, a2⟩ | ⟨a1, a2⟩ | a1 | a1
      · have q95 : ((s[k].toNat : Int) == 95) = false := by rw [beq_eq_false_iff_ne]; omega
        have q45 : ((s[k].toNat : Int) == 45) = false := by rw [beq_eq_false_iff_ne]; omega
        have p95 : ((s[k].toNat : Int) != 95) = true := by rw [bne_iff_ne, ne_eq]; omega
        have p45 : ((s[k].toNat : Int) != 45) = true := by rw [bne_iff_ne, ne_eq]; omega
        have HX : Hid (inWord s[k] = true) := (in_word _).2 (by omega)
        have HG2 : Hid (∀ i (h : i < s.size), i < k + 1 → inWord s[i] = true) := fun i h hi => by
          by_cases e : i = k
          · subst e; exact HX.out
          · exact HG.out i h (by omega)
        go_wp2_with fail
        all_goals
          first
          | (exfalso; omega)
          | skip
        go_round
        case rel => exact ⟨k + 1, by omega, by go_num, HG2.out⟩
        case measure => simp [intOf]; omega
      · have q95 : ((s[k].toNat : Int) == 95) = false := by rw [beq_eq_false_iff_ne]; omega
        have q45 : ((s[k].toNat : Int) == 45) = false := by rw [beq_eq_false_iff_ne]; omega
        have p95 : ((s[k].toNat : Int) != 95) = true := by rw [bne_iff_ne, ne_eq]; omega
        have p45 : ((s[k].toNat : Int) != 45) = true := by rw [bne_iff_ne, ne_eq]; omega
        have HX : Hid (inWord s[k] = true) := (in_word _).2 (by omega)
        have HG2 : Hid (∀ i (h : i < s.size), i < k + 1 → inWord s[i] = true) := fun i h hi => by
          by_cases e : i = k
          · subst e; exact HX.out
          · exact HG.out i h (by omega)
        go_wp2_with fail
        all_goals
          first
          | (exfalso; omega)
          | skip
        go_round
        case rel => exact ⟨k + 1, by omega, by go_num, HG2.out⟩
        case measure => simp [intOf]; omega
      · have q95 : ((s[k].toNat : Int) == 95) = false := by rw [beq_eq_false_iff_ne]; omega
        have q45 : ((s[k].toNat : Int) == 45) = false := by rw [beq_eq_false_iff_ne]; omega
        have p95 : ((s[k].toNat : Int) != 95) = true := by rw [bne_iff_ne, ne_eq]; omega
        have p45 : ((s[k].toNat : Int) != 45) = true := by rw [bne_iff_ne, ne_eq]; omega
        have HX : Hid (inWord s[k] = true) := (in_word _).2 (by omega)
        have HG2 : Hid (∀ i (h : i < s.size), i < k + 1 → inWord s[i] = true) := fun i h hi => by
          by_cases e : i = k
          · subst e; exact HX.out
          · exact HG.out i h (by omega)
        go_wp2_with fail
        all_goals
          first
          | (exfalso; omega)
          | skip
        go_round
        case rel => exact ⟨k + 1, by omega, by go_num, HG2.out⟩
        case measure => simp [intOf]; omega
      · have q95 : ((s[k].toNat : Int) == 95) = true := by rw [beq_iff_eq]; omega
        have q45 : ((s[k].toNat : Int) == 45) = false := by rw [beq_eq_false_iff_ne]; omega
        have p95 : ((s[k].toNat : Int) != 95) = false := by rw [bne_eq_false_iff_eq]; omega
        have p45 : ((s[k].toNat : Int) != 45) = true := by rw [bne_iff_ne, ne_eq]; omega
        have HX : Hid (inWord s[k] = true) := (in_word _).2 (by omega)
        have HG2 : Hid (∀ i (h : i < s.size), i < k + 1 → inWord s[i] = true) := fun i h hi => by
          by_cases e : i = k
          · subst e; exact HX.out
          · exact HG.out i h (by omega)
        go_wp2_with fail
        all_goals
          first
          | (exfalso; omega)
          | skip
        go_round
        case rel => exact ⟨k + 1, by omega, by go_num, HG2.out⟩
        case measure => simp [intOf]; omega
      · have q95 : ((s[k].toNat : Int) == 95) = false := by rw [beq_eq_false_iff_ne]; omega
        have q45 : ((s[k].toNat : Int) == 45) = true := by rw [beq_iff_eq]; omega
        have p95 : ((s[k].toNat : Int) != 95) = true := by rw [bne_iff_ne, ne_eq]; omega
        have p45 : ((s[k].toNat : Int) != 45) = false := by rw [bne_eq_false_iff_eq]; omega
        have HX : Hid (inWord s[k] = true) := (in_word _).2 (by omega)
        have HG2 : Hid (∀ i (h : i < s.size), i < k + 1 → inWord s[i] = true) := fun i h hi => by
          by_cases e : i = k
          · subst e; exact HX.out
          · exact HG.out i h (by omega)
        go_wp2_with fail
        all_goals
          first
          | (exfalso; omega)
          | skip
        go_round
        case rel => exact ⟨k + 1, by omega, by go_num, HG2.out⟩
        case measure => simp [intOf]; omega
      · have q95 : ((s[k].toNat : Int) == 95) = false := by rw [beq_eq_false_iff_ne]; omega
        have q45 : ((s[k].toNat : Int) == 45) = false := by rw [beq_eq_false_iff_ne]; omega
        have p95 : ((s[k].toNat : Int) != 95) = true := by rw [bne_iff_ne, ne_eq]; omega
        have p45 : ((s[k].toNat : Int) != 45) = true := by rw [bne_iff_ne, ne_eq]; omega
        have HX : Hid (inWord s[k] = false) := Bool.eq_false_iff.2 (fun h => by have := (in_word _).1 h; omega)
        go_wp2_with fail
        all_goals
          first
          | (exfalso; omega)
          | (go_ret; exact ⟨ret_bool (by rw [HN.out (not_upto k hkl HX.out)]), rfl⟩)
      · have q95 : ((s[k].toNat : Int) == 95) = false := by rw [beq_eq_false_iff_ne]; omega
        have q45 : ((s[k].toNat : Int) == 45) = false := by rw [beq_eq_false_iff_ne]; omega
        have p95 : ((s[k].toNat : Int) != 95) = true := by rw [bne_iff_ne, ne_eq]; omega
        have p45 : ((s[k].toNat : Int) != 45) = true := by rw [bne_iff_ne, ne_eq]; omega
        have HX : Hid (inWord s[k] = false) := Bool.eq_false_iff.2 (fun h => by have := (in_word _).1 h; omega)
        go_wp2_with fail
        all_goals
          first
          | (exfalso; omega)
          | (go_ret; exact ⟨ret_bool (by rw [HN.out (not_upto k hkl HX.out)]), rfl⟩)
      · have q95 : ((s[k].toNat : Int) == 95) = false := by rw [beq_eq_false_iff_ne]; omega
        have q45 : ((s[k].toNat : Int) == 45) = false := by rw [beq_eq_false_iff_ne]; omega
        have p95 : ((s[k].toNat : Int) != 95) = true := by rw [bne_iff_ne, ne_eq]; omega
        have p45 : ((s[k].toNat : Int) != 45) = true := by rw [bne_iff_ne, ne_eq]; omega
        have l57 : ¬ ((s[k].toNat : Int) ≤ 57) := by omega
        have m57 : decide ((s[k].toNat : Int) ≤ 57) = false := by rw [decide_eq_false_iff_not]; omega
        have HX : Hid (inWord s[k] = false) := Bool.eq_false_iff.2 (fun h => by have := (in_word _).1 h; omega)
        go_wp2_with fail
        all_goals
          first
          | (exfalso; omega)
          | (go_ret; exact ⟨ret_bool (by rw [HN.out (not_upto k hkl HX.out)]), rfl⟩)
      · have q95 : ((s[k].toNat : Int) == 95) = false := by rw [beq_eq_false_iff_ne]; omega
        have q45 : ((s[k].toNat : Int) == 45) = false := by rw [beq_eq_false_iff_ne]; omega
        have p95 : ((s[k].toNat : Int) != 95) = true := by rw [bne_iff_ne, ne_eq]; omega
        have p45 : ((s[k].toNat : Int) != 45) = true := by rw [bne_iff_ne, ne_eq]; omega
        have l90 : ¬ ((s[k].toNat : Int) ≤ 90) := by omega
        have m90 : decide ((s[k].toNat : Int) ≤ 90) = false := by rw [decide_eq_false_iff_not]; omega
        have l57 : ¬ ((s[k].toNat : Int) ≤ 57) := by omega
        have m57 : decide ((s[k].toNat : Int) ≤ 57) = false := by rw [decide_eq_false_iff_not]; omega
        have HX : Hid (inWord s[k] = false) := Bool.eq_false_iff.2 (fun h => by have := (in_word _).1 h; omega)
        go_wp2_with fail
        all_goals
          first
          | (exfalso; omega)
          | (go_ret; exact ⟨ret_bool (by rw [HN.out (not_upto k hkl HX.out)]), rfl⟩)
      · have q95 : ((s[k].toNat : Int) == 95) = false := by rw [beq_eq_false_iff_ne]; omega
        have q45 : ((s[k].toNat : Int) == 45) = false := by rw [beq_eq_false_iff_ne]; omega
        have p95 : ((s[k].toNat : Int) != 95) = true := by rw [bne_iff_ne, ne_eq]; omega
        have p45 : ((s[k].toNat : Int) != 45) = true := by rw [bne_iff_ne, ne_eq]; omega
        have HX : Hid (inWord s[k] = false) := Bool.eq_false_iff.2 (fun h => by have := (in_word _).1 h; omega)
        go_wp2_with fail
        all_goals
          first
          | (exfalso; omega)
          | (go_ret; exact ⟨ret_bool (by rw [HN.out (not_upto k hkl HX.out)]), rfl⟩)
      · have q95 : ((s[k].toNat : Int) == 95) = false := by rw [beq_eq_false_iff_ne]; omega
        have q45 : ((s[k].toNat : Int) == 45) = false := by rw [beq_eq_false_iff_ne]; omega
        have p95 : ((s[k].toNat : Int) != 95) = true := by rw [bne_iff_ne, ne_eq]; omega
        have p45 : ((s[k].toNat : Int) != 45) = true := by rw [bne_iff_ne, ne_eq]; omega
        have l122 : ¬ ((s[k].toNat : Int) ≤ 122) := by omega
        have m122 : decide ((s[k].toNat : Int) ≤ 122) = false := by rw [decide_eq_false_iff_not]; omega
        have l90 : ¬ ((s[k].toNat : Int) ≤ 90) := by omega
        have m90 : decide ((s[k].toNat : Int) ≤ 90) = false := by rw [decide_eq_false_iff_not]; omega
        have l57 : ¬ ((s[k].toNat : Int) ≤ 57) := by omega
        have m57 : decide ((s[k].toNat : Int) ≤ 57) = false := by rw [decide_eq_false_iff_not]; omega
        have HX : Hid (inWord s[k] = false) := Bool.eq_false_iff.2 (fun h => by have := (in_word _).1 h; omega)
        go_wp2_with fail
        all_goals
          first
          | (exfalso; omega)
          | (go_ret; exact ⟨ret_bool (by rw [HN.out (not_upto k hkl HX.out)]), rfl⟩)
    · have HA : Hid (s.data.toList.all inWord = true) := all_upto (fun i hi => HG.out i hi (by omega))
      by_cases h0 : s.size = 0
      · have h3 : (s.size : Int) = 0 := by omega
        go_wp2_with fail
        all_goals
          first
          | (exfalso; omega)
          | (go_ret; exact ⟨ret_bool (by rw [HW0.out h0]), rfl⟩)
      · by_cases h1 : s.size ≤ 256
        · have h3 : (s.size : Int) > 0 := by omega
          have h4 : (s.size : Int) ≤ 256 := by omega
          go_wp2_with fail
          all_goals
            first
            | (exfalso; omega)
            | (go_ret; exact ⟨ret_bool (by rw [HW2.out (by omega) h1, HA.out]), rfl⟩)
        · have h3 : (s.size : Int) > 0 := by omega
          have h4 : ¬ (s.size : Int) ≤ 256 := by omega
          go_wp2_with fail
          all_goals
            first
            | (exfalso; omega)
            | (go_ret; exact ⟨ret_bool (by rw [HW1.out h1]), rfl⟩)
end Go.Proofs.YtlniokpekcoodaaGreatDoor
