/-
  IDs of objects: which may be, and how they compare.
-/
import Derived.Test.YtbmlmcoepmbelaaDoorObjK
set_option linter.unusedVariables false
set_option linter.unusedSimpArgs false
namespace Go.Proofs.YtbmlmcoepmbelaaDoor
open Go.RowKit

theorem word_long {s : ByteArray} (h : ¬ s.size ≤ 64) : wordO s = false := by unfold wordO; rw [decide_eq_false h]; rfl
theorem word_notbare {s : ByteArray} (h : bareL s.data.toList = false) : wordO s = false := by unfold wordO; rw [h]; simp
theorem word_slash {s : ByteArray} (h : slashO s = true) : wordO s = false := by unfold wordO; rw [h]; simp
theorem word_good {s : ByteArray} (h1 : s.size ≤ 64) (h2 : bareL s.data.toList = true) (h3 : slashO s = false) : wordO s = true := by unfold wordO; rw [decide_eq_true h1, h2, h3]; rfl

/-- A slash at a place. -/
theorem slash_at {s : ByteArray} {i : Nat} (hi : i < s.size) (h : s[i] = 47) : slashO s = true := by
  rw [slash_mem, decide_eq_true_eq]
  have : s.data.toList[i]'(by rw [← Lib.size_eq]; exact hi) = 47 := by rw [← h]; rfl
  rw [← this]
  exact List.getElem_mem _
theorem slash_no {s : ByteArray} (h : ∀ i (hi : i < s.size), i < s.size → s[i] ≠ 47) : slashO s = false := by
  rw [slash_mem, decide_eq_false_iff_not]
  intro hm
  obtain ⟨i, hi, e⟩ := List.getElem_of_mem hm
  have hi' : i < s.size := by rw [Lib.size_eq]; exact hi
  exact h i hi' hi' (by rw [← e]; rfl)

set_option maxRecDepth 100000 in
theorem r12Word_any (s : ByteArray) (hs : s.size ≤ 140737488355328) (w : World) : Calls Tryd.prog 36 #[.string s] w fun e w' => e = .returned (.bool (wordO s)) ∧ w' = w := by
  have HS := Lib.hid (fun i hi => slash_at (s := s) (i := i) hi)
  have HN := Lib.hid (slash_no (s := s))
  have HB := Lib.hid (r4Bare_any s hs)
  go_enter Tryd.func36, Tryd.ntmps36
  go_wp2_with fail
  go_loopw [3] (fun v3 wr => ∃ (j : Nat), j ≤ s.size ∧ v3 = .int .i64 j ∧ Hid (∀ i (hi : i < s.size), i < j → s[i] ≠ 47) ∧ wr = w) (fun v3 _ => s.size - (intOf v3).toNat)
  case atStart => exact ⟨0, by omega, rfl, fun i _ hi => absurd hi (Nat.not_lt_zero i), rfl⟩
  case round =>
    obtain ⟨j, hj, rfl, hnn, rfl⟩ := hrel
    by_cases hjl : j < s.size
    · have hc := s[j].toNat_lt
      by_cases he : s[j] = 47
      · have HR := Lib.hid (word_slash (HS.out j hjl he))
        have hq : ((s[j].toNat : Int) == 47) = true := by rw [he]; rfl
        clear he hnn HS HN
        go_wp2_with fail
        go_ret
        exact ⟨ret_bool HR.out.symm, rfl⟩
      · have hq : ((s[j].toNat : Int) == 47) = false := by
          rw [beq_eq_false_iff_ne]
          intro e
          exact he (UInt8.toNat_inj.1 (by have : (47 : UInt8).toNat = 47 := rfl; omega))
        have HS2 : Hid (∀ i (hi : i < s.size), i < j + 1 → s[i] ≠ 47) := fun i hi hij => by
          by_cases e : i = j
          · subst e; exact he
          · exact hnn.out i hi (by omega)
        clear he hnn HN HS
        go_wp2_with fail
        go_roundw
        case rel => exact ⟨j + 1, by omega, by go_num, HS2, trivial⟩
        case measure => simp [intOf]; omega
    · obtain rfl : j = s.size := by omega
      have HZ := Lib.hid (HN.out hnn.out)
      clear hnn HS HN
      cases hb : bareL s.data.toList with
      | false =>
        have HR := Lib.hid (word_notbare hb)
        have HF : Hid (∀ w, Calls Tryd.prog 61 #[.string s] w fun e w' => e = .returned (.bool false) ∧ w' = w) := fun w => by have := HB.out w; rwa [hb] at this
        clear hb
        go_wp2_with (go_at_call 61; refine (HF.out _).mono ?_; rintro e w1 ⟨rfl, rfl⟩)
        go_ret
        exact ⟨ret_bool HR.out.symm, rfl⟩
      | true =>
        have HF : Hid (∀ w, Calls Tryd.prog 61 #[.string s] w fun e w' => e = .returned (.bool true) ∧ w' = w) := fun w => by have := HB.out w; rwa [hb] at this
        by_cases hz : s.size ≤ 64
        · have HR := Lib.hid (word_good hz hb HZ.out)
          have hz2 : decide ((s.size : Int) ≤ 64) = true := decide_eq_true (by omega)
          clear hb
          go_wp2_with (go_at_call 61; refine (HF.out _).mono ?_; rintro e w1 ⟨rfl, rfl⟩)
          go_ret
          exact ⟨ret_bool HR.out.symm, rfl⟩
        · have HR := Lib.hid (word_long hz)
          have hz2 : decide ((s.size : Int) ≤ 64) = false := decide_eq_false (by omega)
          clear hb
          go_wp2_with (go_at_call 61; refine (HF.out _).mono ?_; rintro e w1 ⟨rfl, rfl⟩)
          go_ret
          exact ⟨ret_bool HR.out.symm, rfl⟩

theorem r12Right_any (k p n : ByteArray) (hk : k.size ≤ 140737488355328) (hp : p.size ≤ 140737488355328) (hn : n.size ≤ 140737488355328) (w : World) :
    Calls Tryd.prog 17 #[.agg #[.string k, .string p, .string n]] w fun e w' => e = .returned (.bool (rightO k p n)) ∧ Below w.heap.size w w' := by
  have HK := Lib.hid (r12Word_any k hk)
  have HP := Lib.hid (r12Word_any p hp)
  have HN := Lib.hid (r12Word_any n hn)
  have HR : Hid (rightO k p n = (wordO k && (wordO p && wordO n))) := rfl
  generalize wordO k = a at HK HR
  generalize wordO p = b at HP HR
  generalize wordO n = c at HN HR
  generalize rightO k p n = r at HR ⊢
  have HR2 := HR.out
  subst HR2
  clear HR
  cases a
  · go_enter Tryd.func17, Tryd.ntmps17
    go_wp2_with (go_at_call 36; refine (HK.out _).mono ?_; rintro e w1 ⟨rfl, rfl⟩)
    go_ret
    exact ⟨rfl, (Below.refl _ _).alloc (Nat.le_refl _) _⟩
  · cases b
    · go_enter Tryd.func17, Tryd.ntmps17
      go_wp2_with (first
        | (go_at_call 36; (with_reducible refine (HP.out _).mono ?_); rintro e w1 ⟨rfl, rfl⟩)
        | (go_at_call 36; (with_reducible refine (HK.out _).mono ?_); rintro e w1 ⟨rfl, rfl⟩))
      go_ret
      exact ⟨rfl, (Below.refl _ _).alloc (Nat.le_refl _) _⟩
    · go_enter Tryd.func17, Tryd.ntmps17
      go_wp2_with (first
        | (go_at_call 36; (with_reducible refine (HN.out _).mono ?_); rintro e w1 ⟨rfl, rfl⟩)
        | (go_at_call 36; (with_reducible refine (HP.out _).mono ?_); rintro e w1 ⟨rfl, rfl⟩)
        | (go_at_call 36; (with_reducible refine (HK.out _).mono ?_); rintro e w1 ⟨rfl, rfl⟩))
      go_ret
      exact ⟨rfl, (Below.refl _ _).alloc (Nat.le_refl _) _⟩

/-! ### package object's -/

def wAt (k p n : ByteArray) : Nat → ByteArray
  | 0 => k
  | 1 => p
  | _ => n
theorem three_index (k p n : ByteArray) (j : Nat) (hj : j < 3) (w : World) : (Instr.index 65 (.agg #[.string k, .string p, .string n]) (.int .i64 j)).run Tryd.prog w = .ok (.string (wAt k p n j)) w := by
  rcases (by omega : j = 0 ∨ j = 1 ∨ j = 2) with rfl | rfl | rfl <;> kernel_rfl
theorem right_bad {k p n : ByteArray} {j : Nat} (hj : j < 3) (h : wordO (wAt k p n j) = false) : rightO k p n = false := by
  unfold rightO
  rcases (by omega : j = 0 ∨ j = 1 ∨ j = 2) with rfl | rfl | rfl <;> simp only [wAt] at h <;> rw [h] <;> simp
theorem right_good {k p n : ByteArray} (h : ∀ j, j < 3 → wordO (wAt k p n j) = true) : rightO k p n = true := by
  unfold rightO
  have h0 := h 0 (by omega)
  have h1 := h 1 (by omega)
  have h2 := h 2 (by omega)
  simp only [wAt] at h0 h1 h2
  rw [h0, h1, h2]
  rfl
theorem wAt_size {k p n : ByteArray} (hk : k.size ≤ 140737488355328) (hp : p.size ≤ 140737488355328) (hn : n.size ≤ 140737488355328) (j : Nat) : (wAt k p n j).size ≤ 140737488355328 := by
  unfold wAt
  split <;> assumption

set_option maxRecDepth 100000 in
theorem oRight_any (k p n : ByteArray) (hk : k.size ≤ 140737488355328) (hp : p.size ≤ 140737488355328) (hn : n.size ≤ 140737488355328) (w : World) :
    Calls Tryd.prog 16 #[.agg #[.string k, .string p, .string n]] w fun e w' => e = .returned (.bool (rightO k p n)) ∧ Below w.heap.size w w' := by
  have IX := Lib.hid (three_index k p n)
  have RB := Lib.hid (fun j hj => right_bad (k := k) (p := p) (n := n) (j := j) hj)
  have RG := Lib.hid (right_good (k := k) (p := p) (n := n))
  have WZ := Lib.hid (wAt_size hk hp hn)
  have HB0 := Lib.hid ((Below.refl w.heap.size w).alloc (Nat.le_refl _) (.cells #[.string k, .string p, .string n] 29))
  have x0 : (w.alloc (.cells #[.string k, .string p, .string n] 29)).cell? ⟨w.heap.size, 0, none⟩ = some (.string k) := by rw [World.cell?_alloc_new]; rfl
  have x1 : (w.alloc (.cells #[.string k, .string p, .string n] 29)).cell? ⟨w.heap.size, 1, none⟩ = some (.string p) := by rw [World.cell?_alloc_new]; rfl
  have x2 : (w.alloc (.cells #[.string k, .string p, .string n] 29)).cell? ⟨w.heap.size, 2, none⟩ = some (.string n) := by rw [World.cell?_alloc_new]; rfl
  go_enter Tryd.func16, Tryd.ntmps16
  go_upto_region 1 with fail
  generalize w.alloc (.cells #[.string k, .string p, .string n] 29) = v at *
  go_wp2_with (go_at_call 33; refine (owords_any k p n _).mono ?_; rintro e w1 ⟨rfl, hb1⟩; have HB1 := Lib.hid (bstep HB0.out hb1 HB0.out.size); clear hb1)
  clear x0 x1 x2
  generalize (#[.string k, .string p, .string n] : Array Value) = A at *
  go_loopw [7] (fun v7 wr => ∃ (j : Nat), j ≤ 3 ∧ v7 = .int .i64 j ∧ Hid (∀ i, i < j → wordO (wAt k p n i) = true) ∧ wr = w1) (fun v7 _ => 3 - (intOf v7).toNat)
  case atStart => exact ⟨0, by omega, rfl, fun i hi => absurd hi (Nat.not_lt_zero i), rfl⟩
  case round =>
    obtain ⟨j, hj, rfl, hnn, rfl⟩ := hrel
    by_cases hj3 : j < 3
    · have ix : ∀ w, (Instr.index 65 (.agg A) (.int .i64 j)).run Tryd.prog w = .ok (.string (wAt k p n j)) w := fun w => IX.out j hj3 w
      have hl : decide ((j : Int) < 3) = true := by simp; omega
      have hz := WZ.out j
      have RBj := Lib.hid (RB.out j hj3)
      have HS : Hid (wordO (wAt k p n j) = true → ∀ i, i < j + 1 → wordO (wAt k p n i) = true) := fun h i hi => by
        by_cases e : i = j
        · rw [e]; exact h
        · exact hnn.out i (by omega)
      clear hnn IX RB RG WZ
      generalize wAt k p n j = s at ix hz RBj HS
      by_cases h64 : s.size ≤ 64
      · have hd : decide ((64 : Int) < s.size) = false := decide_eq_false (by omega)
        cases hb : bareL s.data.toList with
        | false =>
          have HR := Lib.hid (RBj.out (word_notbare hb))
          have HF : Hid (∀ w, Calls Tryd.prog 34 #[.string s] w fun e w' => e = .returned (.bool false) ∧ w' = w) := fun w => by have := cBare_any s hz w; rwa [hb] at this
          clear hb
          go_wp2_with (go_at_call 34; refine (HF.out _).mono ?_; rintro e w2 ⟨rfl, rfl⟩)
          go_ret
          exact ⟨ret_bool HR.out.symm, HB1.out⟩
        | true =>
          have HF : Hid (∀ w, Calls Tryd.prog 34 #[.string s] w fun e w' => e = .returned (.bool true) ∧ w' = w) := fun w => by have := cBare_any s hz w; rwa [hb] at this
          have HC : Hid (∀ w, Calls Tryd.prog 35 #[.string s, .string ⟨#[47]⟩] w fun e w' => e = .returned (.bool (slashO s)) ∧ w' = w) := fun w => Tryd.strings_Contains_one s 47 w
          cases hq : slashO s with
          | true =>
            rw [hq] at HC
            have HR := Lib.hid (RBj.out (word_slash hq))
            clear hb hq
            go_wp2_with (first
              | (go_at_call 34; refine (HF.out _).mono ?_; rintro e w2 ⟨rfl, rfl⟩)
              | (go_at_call 35; refine (HC.out _).mono ?_; rintro e w3 ⟨rfl, rfl⟩))
            go_ret
            exact ⟨ret_bool HR.out.symm, HB1.out⟩
          | false =>
            rw [hq] at HC
            have HR := Lib.hid (HS.out (word_good h64 hb hq))
            clear hb hq
            go_wp2_with (first
              | (go_at_call 34; refine (HF.out _).mono ?_; rintro e w2 ⟨rfl, rfl⟩)
              | (go_at_call 35; refine (HC.out _).mono ?_; rintro e w3 ⟨rfl, rfl⟩))
            go_roundw
            case rel => exact ⟨j + 1, by omega, by go_num, HR, trivial⟩
            case measure => simp [intOf]; omega
      · have hd : decide ((64 : Int) < s.size) = true := decide_eq_true (by omega)
        have HR := Lib.hid (RBj.out (word_long h64))
        go_wp2_with fail
        go_ret
        exact ⟨ret_bool HR.out.symm, HB1.out⟩
    · obtain rfl : j = 3 := by omega
      have HR := Lib.hid (RG.out hnn.out)
      clear hnn IX RB RG WZ
      go_wp2_with fail
      go_ret
      exact ⟨ret_bool HR.out.symm, HB1.out⟩

end Go.Proofs.YtbmlmcoepmbelaaDoor
