/-
  IDs of objects: pure.
-/
import Derived.Test.YtbmlmcoepmbelaaDoorOrder
import Derived.Test.YtbmlmcoepmbelaaDoorBare
set_option linter.unusedVariables false
set_option linter.unusedSimpArgs false
namespace Go.Proofs.YtbmlmcoepmbelaaDoor
open Go.RowKit

/-- Has a text a slash? -/
def slashO (s : ByteArray) : Bool := decide (0 ≤ Lib.indexByte s.data.toList 47)
/-- May it be a word of an ID? -/
def wordO (s : ByteArray) : Bool := decide (s.size ≤ 64) && (bareL s.data.toList && !slashO s)
def rightO (k p n : ByteArray) : Bool := wordO k && (wordO p && wordO n)
/-- An ID's text. -/
def keyO (k p n : ByteArray) : ByteArray := (((k ++ (⟨#[47]⟩ : ByteArray)) ++ p) ++ (⟨#[47]⟩ : ByteArray)) ++ n

theorem indexByte_mem : ∀ (l : List UInt8) (c : UInt8), decide (0 ≤ Lib.indexByte l c) = decide (c ∈ l)
  | [], c => by simp [Lib.indexByte]
  | x :: l, c => by
    have ih := indexByte_mem l c
    have hg := Lib.indexByte_ge l c
    rw [Bool.eq_iff_iff, decide_eq_true_eq, decide_eq_true_eq] at ih ⊢
    unfold Lib.indexByte
    by_cases h : x = c
    · subst h
      simp
    · have h2 : ¬ c = x := fun e => h e.symm
      simp only [List.mem_cons, h2, false_or]
      rw [← ih]
      simp only [beq_iff_eq, h, if_false]
      by_cases h3 : Lib.indexByte l c = -1
      · simp [h3]
      · simp [h3]
        omega
theorem slash_mem (s : ByteArray) : slashO s = decide ((47 : UInt8) ∈ s.data.toList) := indexByte_mem _ _
theorem word_noslash {s : ByteArray} (h : wordO s = true) : (47 : UInt8) ∉ s.data.toList := by
  unfold wordO at h
  simp only [Bool.and_eq_true, Bool.not_eq_true', slash_mem, decide_eq_false_iff_not] at h
  exact h.2.2
theorem word_size {s : ByteArray} (h : wordO s = true) : s.size ≤ 64 := by
  unfold wordO at h
  simp only [Bool.and_eq_true, decide_eq_true_eq] at h
  exact h.1

/-- What stands ahead of the first slash is told by the whole. -/
theorem slash_cut : ∀ {a b x y : List UInt8}, (47 : UInt8) ∉ a → (47 : UInt8) ∉ b → a ++ 47 :: x = b ++ 47 :: y → a = b ∧ x = y
  | [], [], x, y, _, _, h => ⟨rfl, by injection h⟩
  | [], c :: b, x, y, _, hb, h => by
    injection h with h1 h2
    exact absurd (by rw [← h1]; exact List.mem_cons_self) hb
  | c :: a, [], x, y, ha, _, h => by
    injection h with h1 h2
    exact absurd (by rw [h1]; exact List.mem_cons_self) ha
  | c :: a, d :: b, x, y, ha, hb, h => by
    injection h with h1 h2
    obtain ⟨e1, e2⟩ := slash_cut (fun q => ha (List.mem_cons_of_mem _ q)) (fun q => hb (List.mem_cons_of_mem _ q)) h2
    exact ⟨by rw [h1, e1], e2⟩
theorem key_list (k p n : ByteArray) : (keyO k p n).data.toList = k.data.toList ++ 47 :: (p.data.toList ++ 47 :: n.data.toList) := by
  simp [keyO, ByteArray.data_append]
theorem data_inj {a b : ByteArray} (h : a.data.toList = b.data.toList) : a = b := by
  rw [← Lib.mk_data a, ← Lib.mk_data b, h]
theorem key_inj {k p n k' p' n' : ByteArray} (h1 : rightO k p n = true) (h2 : rightO k' p' n' = true) (h : keyO k p n = keyO k' p' n') : k = k' ∧ p = p' ∧ n = n' := by
  unfold rightO at h1 h2
  simp only [Bool.and_eq_true] at h1 h2
  have e := congrArg (fun s : ByteArray => s.data.toList) h
  simp only [key_list] at e
  obtain ⟨e1, e2⟩ := slash_cut (word_noslash h1.1) (word_noslash h2.1) e
  obtain ⟨e3, e4⟩ := slash_cut (word_noslash h1.2.1) (word_noslash h2.2.1) e2
  exact ⟨data_inj e1, data_inj e3, data_inj e4⟩

/-! ### Ranks -/

def rankT : List ByteArray := [⟨#[78, 97, 109, 101, 115, 112, 97, 99, 101]⟩, ⟨#[83, 101, 99, 114, 101, 116]⟩, ⟨#[67, 111, 110, 102, 105, 103, 77, 97, 112]⟩, ⟨#[86, 111, 108, 117, 109, 101]⟩, ⟨#[65, 99, 99, 111, 117, 110, 116]⟩, ⟨#[82, 111, 108, 101]⟩, ⟨#[83, 101, 114, 118, 105, 99, 101]⟩, ⟨#[68, 101, 112, 108, 111, 121, 109, 101, 110, 116]⟩, ⟨#[74, 111, 98]⟩, ⟨#[73, 110, 103, 114, 101, 115, 115]⟩]
def rankAt (j : Nat) : ByteArray := rankT.getD j ⟨#[]⟩
/-- A kind's place; 10: it has none. -/
def rankO (k : ByteArray) : Nat := rankT.findIdx fun x => decide (x = k)
theorem rank_le (k : ByteArray) : rankO k ≤ 10 := List.findIdx_le_length
theorem rank_at {k : ByteArray} {j : Nat} (hj : j < 10) (he : rankAt j = k) (hn : ∀ i, i < j → rankAt i ≠ k) : rankO k = j := by
  have hl : rankT.length = 10 := rfl
  unfold rankO
  rw [List.findIdx_eq (by omega)]
  refine ⟨?_, fun i hi => ?_⟩
  · rw [decide_eq_true_eq]
    rw [← he, rankAt, List.getD_eq_getElem?_getD, List.getElem?_eq_getElem (by omega)]
    rfl
  · rw [decide_eq_false_iff_not]
    have := hn i hi
    rw [rankAt, List.getD_eq_getElem?_getD, List.getElem?_eq_getElem (by omega)] at this
    exact this
theorem rank_none {k : ByteArray} (hn : ∀ i, i < 10 → rankAt i ≠ k) : rankO k = 10 := by
  have hl : rankT.length = 10 := rfl
  unfold rankO
  rw [← hl, List.findIdx_eq_length]
  intro x hx
  rw [decide_eq_false_iff_not]
  obtain ⟨i, hi, rfl⟩ := List.getElem_of_mem hx
  have := hn i (by omega)
  rw [rankAt, List.getD_eq_getElem?_getD, List.getElem?_eq_getElem hi] at this
  exact this

/-! ### How two IDs compare -/

def cmpO (k p n k' p' n' : ByteArray) : Int :=
  if cmpI (rankO k) (rankO k') ≠ 0 then cmpI (rankO k) (rankO k') else if cmpS k k' ≠ 0 then cmpS k k' else if cmpS p p' ≠ 0 then cmpS p p' else cmpS n n'

theorem cmpS_self (a : ByteArray) : cmpS a a = 0 := (ord_cmpS a).refl
theorem cmpI_self (a : Int) : cmpI a a = 0 := (ord_cmpI a).refl
theorem cmpO_self (k p n : ByteArray) : cmpO k p n k p n = 0 := by simp [cmpO, cmpS_self, cmpI_self]
theorem cmpO_zero {k p n k' p' n' : ByteArray} (h : cmpO k p n k' p' n' = 0) : k = k' ∧ p = p' ∧ n = n' := by
  unfold cmpO at h
  by_cases h0 : cmpI (rankO k) (rankO k') = 0
  · rw [if_neg (by omega)] at h
    by_cases h1 : cmpS k k' = 0
    · rw [if_neg (by omega)] at h
      by_cases h2 : cmpS p p' = 0
      · rw [if_neg (by omega)] at h
        exact ⟨cmpS_zero h1, cmpS_zero h2, cmpS_zero h⟩
      · rw [if_pos h2] at h; exact absurd h h2
    · rw [if_pos h1] at h; exact absurd h h1
  · rw [if_pos h0] at h; exact absurd h h0
theorem cmpO_anti (k p n k' p' n' : ByteArray) : cmpO k' p' n' k p n = -cmpO k p n k' p' n' := by
  unfold cmpO
  rw [(ord_cmpI (rankO k : Int)).anti (rankO k' : Int), (ord_cmpS k).anti k', (ord_cmpS p).anti p', (ord_cmpS n).anti n']
  by_cases h0 : cmpI (rankO k) (rankO k') = 0
  · by_cases h1 : cmpS k k' = 0
    · by_cases h2 : cmpS p p' = 0
      · simp [h0, h1, h2]
      · simp [h0, h1, h2]
    · simp [h0, h1]
  · simp [h0]
theorem cmpO_rank {k p n k' p' n' : ByteArray} (h : rankO k < rankO k') : cmpO k p n k' p' n' < 0 := by
  have e : cmpI (rankO k) (rankO k') = -1 := by unfold cmpI; rw [if_pos (by omega)]
  unfold cmpO
  rw [e]
  simp

end Go.Proofs.YtbmlmcoepmbelaaDoor
