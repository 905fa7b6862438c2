/-
  Package trim on lists of bytes: the tokens of a template.
-/
import Derived.Lib.SlTrimSet
import Derived.Lib.IndexLaws
import Derived.Lib.CutLaws
import Derived.Lib.Hide
set_option linter.unusedVariables false
set_option linter.unusedSimpArgs false
namespace Go.Proofs.YtomdkmhaohcofaaDoor
open Go

/-- Where the first two closing braces outside of quotes begin, or -1; the first number says: 0 outside of quotes, 1 within, 2 behind a backslash within. -/
def lenG : Nat → Nat → List UInt8 → Int
  | _, _, [] => -1
  | st, i, b :: l => if st = 2 then lenG 1 (i + 1) l else if st = 1 ∧ b = 92 then lenG 2 (i + 1) l else if b = 34 then lenG (1 - st) (i + 1) l else if st = 0 ∧ Lib.hasPrefix (b :: l) [125, 125] = true then (i : Int) else lenG st (i + 1) l

theorem lenG_room : ∀ (l : List UInt8) (st i : Nat), lenG st i l = -1 ∨ ∃ k : Nat, lenG st i l = (i + k : Nat) ∧ k + 2 ≤ l.length
  | [], _, _ => .inl rfl
  | b :: l, st, i => by
    have step : ∀ st', lenG st' (i + 1) l = -1 ∨ ∃ k : Nat, lenG st' (i + 1) l = (i + k : Nat) ∧ k + 2 ≤ (b :: l).length := fun st' => by
      rcases lenG_room l st' (i + 1) with h | ⟨k, h, hk⟩
      · exact .inl h
      · exact .inr ⟨k + 1, by rw [h]; congr 1; omega, by simp; omega⟩
    unfold lenG
    split
    · exact step _
    · split
      · exact step _
      · split
        · exact step _
        · split
          · rename_i h
            refine .inr ⟨0, rfl, ?_⟩
            have := h.2
            unfold Lib.hasPrefix at this
            have := (List.isPrefixOf_iff_prefix.1 this).length_le
            simpa using this
          · exact step _

structure Tok where
  act : Bool
  S : List UInt8
  at' : Nat

/-- What is left of an action, and which of the texts around it lose their blanks. -/
def readA (l : List UInt8) : List UInt8 × Bool × Bool :=
  if l = [45] then ([], true, false)
  else (Lib.trimS (Lib.trimSuffix (Lib.trimPrefix l [45, 32]) [32, 45]) [32, 9, 10], Lib.hasPrefix l [45, 32], Lib.hasSuffix (Lib.trimPrefix l [45, 32]) [32, 45])

def commentA (s : List UInt8) : Bool := decide (4 ≤ s.length) && Lib.hasPrefix s [47, 42] && Lib.hasSuffix s [42, 47]

/-- What a text keeps between two actions. -/
def leftT (text : List UInt8) (at' : Nat) (ahead behind : Bool) : Tok :=
  let t1 := if ahead then Lib.trimLeftS text [32, 9, 10] else text
  ⟨false, if behind then Lib.trimRightS t1 [32, 9, 10] else t1, at' + (text.length - t1.length)⟩

def oneT (t : Tok) : List Tok := if t.S = [] then [] else [t]
def actT (s : List UInt8) (at' : Nat) : List Tok := if commentA s then [] else [⟨true, s, at'⟩]

theorem cut_shrinks {l sub : List UInt8} (h : (Lib.cut l sub).2.2 = true) : (Lib.cut l sub).1.length + (Lib.cut l sub).2.1.length + sub.length = l.length := by
  unfold Lib.cut at h ⊢
  split
  · rename_i h0
    have := Lib.index_room l sub h0
    simp
    omega
  · rename_i h0
    rw [if_neg h0] at h
    cases h

/-- The tokens of what is left of a template behind a place; 'ahead': whether the action ahead of it trims behind. None: an action isn't closed. -/
def splitT (l : List UInt8) (at' : Nat) (ahead : Bool) : Option (List Tok) :=
  if h : (Lib.cut l [123, 123]).2.2 = true then
    if lenG 0 0 (Lib.cut l [123, 123]).2.1 < 0 then none
    else
      (splitT ((Lib.cut l [123, 123]).2.1.drop ((lenG 0 0 (Lib.cut l [123, 123]).2.1).toNat + 2)) (at' + (Lib.cut l [123, 123]).1.length + (2 + (lenG 0 0 (Lib.cut l [123, 123]).2.1).toNat + 2)) (readA ((Lib.cut l [123, 123]).2.1.take (lenG 0 0 (Lib.cut l [123, 123]).2.1).toNat)).2.2).map fun ts =>
        oneT (leftT (Lib.cut l [123, 123]).1 at' ahead (readA ((Lib.cut l [123, 123]).2.1.take (lenG 0 0 (Lib.cut l [123, 123]).2.1).toNat)).2.1) ++ actT (readA ((Lib.cut l [123, 123]).2.1.take (lenG 0 0 (Lib.cut l [123, 123]).2.1).toNat)).1 (at' + (Lib.cut l [123, 123]).1.length) ++ ts
  else some (oneT (leftT (Lib.cut l [123, 123]).1 at' ahead false))
termination_by l.length
decreasing_by
  have := cut_shrinks h
  simp at *
  omega

theorem split_last {l text rest : List UInt8} {at' : Nat} {ahead : Bool} (h : Lib.cut l [123, 123] = (text, rest, false)) : splitT l at' ahead = some (oneT (leftT text at' ahead false)) := by
  rw [splitT, dif_neg (by rw [h]; simp), h]
theorem split_open {l text rest : List UInt8} {at' : Nat} {ahead : Bool} (h : Lib.cut l [123, 123] = (text, rest, true)) (hn : lenG 0 0 rest < 0) : splitT l at' ahead = none := by
  rw [splitT, dif_pos (by rw [h]), if_pos (by rw [h]; exact hn)]
theorem split_more {l text rest : List UInt8} {at' n : Nat} {ahead : Bool} (h : Lib.cut l [123, 123] = (text, rest, true)) (hn : lenG 0 0 rest = n) :
    splitT l at' ahead = (splitT (rest.drop (n + 2)) (at' + text.length + (2 + n + 2)) (readA (rest.take n)).2.2).map fun ts => oneT (leftT text at' ahead (readA (rest.take n)).2.1) ++ actT (readA (rest.take n)).1 (at' + text.length) ++ ts := by
  rw [splitT, dif_pos (by rw [h]), if_neg (by rw [h]; simp only; rw [hn]; omega), h]
  simp only
  rw [hn]
  rfl

theorem occ2 (s : List UInt8) (a b : UInt8) (j : Nat) : Lib.occAt s [a, b] j = true ↔ s[j]? = some a ∧ s[j + 1]? = some b := by
  unfold Lib.occAt
  have e : ∀ (k : Nat), (s.drop j)[k]? = s[j + k]? := fun k => List.getElem?_drop
  have e0 : (s.drop j)[0]? = s[j]? := e 0
  have e1 : (s.drop j)[1]? = s[j + 1]? := e 1
  rw [← e0, ← e1]
  cases s.drop j with
  | nil => simp
  | cons x t =>
    cases t with
    | nil => simp
    | cons y t =>
      simp only [List.isPrefixOf, List.getElem?_cons_zero, List.getElem?_cons_succ, Bool.and_true, Bool.and_eq_true, beq_iff_eq, Option.some.injEq]
      exact ⟨fun h => ⟨h.1.symm, h.2.symm⟩, fun h => ⟨h.1.symm, h.2.symm⟩⟩

theorem occ2_false (s : List UInt8) (a b : UInt8) (j : Nat) : Lib.occAt s [a, b] j = false ↔ ¬ (s[j]? = some a ∧ s[j + 1]? = some b) := by
  rw [← occ2]
  simp

/-- Two bytes nowhere side by side. -/
def No2 (s : List UInt8) (a b : UInt8) : Prop := ∀ j, ¬ (s[j]? = some a ∧ s[j + 1]? = some b)

theorem no2_of {s : List UInt8} {a b : UInt8} (h : Lib.contains s [a, b] = false) : No2 s a b := fun j hj => by
  have h1 := (occ2 s a b j).2 hj
  have : ¬ 0 ≤ Lib.index s [a, b] := by simpa [Lib.contains] using h
  rcases Lib.index_spec s [a, b] with ⟨_, hn⟩ | ⟨i, hi, _⟩
  · have hlt : j ≤ s.length := by
      have := (List.getElem?_eq_some_iff.1 hj.1).1
      omega
    rw [hn j hlt] at h1
    cases h1
  · omega
theorem cut_none {s : List UInt8} {a b : UInt8} (h : No2 s a b) : Lib.cut s [a, b] = (s, [], false) := by
  have : Lib.index s [a, b] = -1 := Lib.index_none fun j _ => (occ2_false s a b j).2 (h j)
  unfold Lib.cut
  rw [this, if_neg (by omega)]
theorem cut_first {s t : List UInt8} {a b : UInt8} (h : No2 s a b) (he : ∀ j, j + 1 = s.length → s[j]? = some a → a ≠ b) : Lib.cut (s ++ a :: b :: t) [a, b] = (s, t, true) := by
  have : Lib.index (s ++ a :: b :: t) [a, b] = s.length := by
    refine Lib.index_first (by simp) ((occ2 _ _ _ _).2 ⟨by simp, by rw [List.getElem?_append_right (by omega)]; simp⟩) fun j hj => (occ2_false _ _ _ _).2 fun ⟨h1, h2⟩ => ?_
    rw [List.getElem?_append_left hj] at h1
    by_cases hj1 : j + 1 < s.length
    · rw [List.getElem?_append_left hj1] at h2
      exact h j ⟨h1, h2⟩
    · rw [List.getElem?_append_right (by omega), show j + 1 - s.length = 0 by omega] at h2
      simp at h2
      exact he j (by omega) h1 h2
  unfold Lib.cut
  rw [this, if_pos (by omega)]
  simp

theorem noEnd {s : List UInt8} {a : UInt8} (h : Lib.hasSuffix s [a] = false) : ∀ j, j + 1 = s.length → s[j]? ≠ some a := fun j hj e => by
  have : Lib.hasSuffix s [a] = true := by
    unfold Lib.hasSuffix
    rw [List.isSuffixOf_iff_suffix]
    refine ⟨s.take j, ?_⟩
    have h1 := (List.getElem?_eq_some_iff.1 e)
    obtain ⟨h2, h3⟩ := h1
    have h4 := List.take_succ_eq_append_getElem h2
    rw [h3, hj, List.take_length] at h4
    exact h4.symm
  rw [h] at this
  cases this

/-- Nowhere two closing braces: no action ends. -/
theorem lenG_none : ∀ (l : List UInt8) (st i : Nat), No2 l 125 125 → lenG st i l = -1
  | [], _, _, _ => rfl
  | b :: l, st, i, h => by
    have hl : No2 l 125 125 := fun j hj => h (j + 1) (by simpa using hj)
    unfold lenG
    have hp : Lib.hasPrefix (b :: l) [125, 125] = false := by
      cases hx : Lib.hasPrefix (b :: l) [125, 125] with
      | false => rfl
      | true =>
        have : Lib.occAt (b :: l) [125, 125] 0 = true := hx
        exact absurd ((occ2 _ _ _ _).1 this) (h 0)
    rw [hp]
    split
    · exact lenG_none l _ _ hl
    · split
      · exact lenG_none l _ _ hl
      · split
        · exact lenG_none l _ _ hl
        · rw [if_neg (by simp)]
          exact lenG_none l _ _ hl

/-- Bytes that are no quote and no closing brace, and two closing braces. -/
theorem lenG_plain : ∀ (l t : List UInt8) (i : Nat), (∀ b ∈ l, b ≠ 34 ∧ b ≠ 125) → lenG 0 i (l ++ 125 :: 125 :: t) = (i + l.length : Nat)
  | [], t, i, _ => by
    show lenG 0 i (125 :: 125 :: t) = _
    unfold lenG
    rw [if_neg (by decide), if_neg (by simp), if_neg (by decide), if_pos ⟨rfl, by simp [Lib.hasPrefix]⟩]
    simp
  | b :: l, t, i, h => by
    have hb := h b (List.mem_cons_self ..)
    rw [List.cons_append]
    unfold lenG
    rw [if_neg (by decide), if_neg (by simp), if_neg hb.1, if_neg (by
      rintro ⟨_, hp⟩
      simp [Lib.hasPrefix] at hp
      exact hb.2 hp.1.symm), lenG_plain l t (i + 1) (fun x hx => h x (List.mem_cons_of_mem _ hx))]
    simp
    omega

end Go.Proofs.YtomdkmhaohcofaaDoor
