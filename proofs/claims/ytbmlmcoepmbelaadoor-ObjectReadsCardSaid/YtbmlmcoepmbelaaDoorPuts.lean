/-
  A map with a value under a key, and without one: on the trees alone.
-/
import Derived.Test.YtbmlmcoepmbelaaDoorGet
set_option linter.unusedVariables false
set_option linter.unusedSimpArgs false
namespace Go.Proofs.YtbmlmcoepmbelaaDoor
open Go.RowKit

/-- Go's '<' on texts. -/
def ltS (a b : ByteArray) : Bool := Op.bytesLess a.toList b.toList

/-- The pairs below, this one, the pairs above. -/
def putR (key : ByteArray) (x : T) : List (ByteArray × T) → List (ByteArray × T)
  | [] => [(key, x)]
  | p :: r => if ltS p.1 key = true then p :: putR key x r else if p.1 = key then (key, x) :: r else (key, x) :: p :: r

/-- What is under a key. -/
def findR (key : ByteArray) (m : List (ByteArray × T)) : Option T := (m.find? fun p => decide (p.1 = key)).map (·.2)

theorem findR_skip {key : ByteArray} {p : ByteArray × T} {r : List (ByteArray × T)} (h : p.1 ≠ key) : findR key (p :: r) = findR key r := by
  unfold findR
  rw [List.find?_cons_of_neg (by simpa using h)]
theorem findR_here {key : ByteArray} {p : ByteArray × T} {r : List (ByteArray × T)} (h : p.1 = key) : findR key (p :: r) = some p.2 := by
  unfold findR
  rw [List.find?_cons_of_pos (by simpa using h)]
  rfl

theorem ltS_ne {a b : ByteArray} (h : ltS a b = true) (irr : ∀ l, Op.bytesLess l l = false) : a ≠ b := fun e => by
  subst e
  unfold ltS at h
  rw [irr] at h
  cases h

theorem bytesLess_irr : ∀ l : List UInt8, Op.bytesLess l l = false
  | [] => rfl
  | x :: r => by
    rw [Op.bytesLess]
    simp [bytesLess_irr r]

theorem ltS_irr (a : ByteArray) : ltS a a = false := bytesLess_irr _

theorem putR_lt {key : ByteArray} {x : T} {p : ByteArray × T} {r : List (ByteArray × T)} (h : ltS p.1 key = true) : putR key x (p :: r) = p :: putR key x r := by rw [putR, if_pos h]
theorem putR_eq {key : ByteArray} {x : T} {p : ByteArray × T} {r : List (ByteArray × T)} (h : p.1 = key) : putR key x (p :: r) = (key, x) :: r := by
  rw [putR, if_neg (by rw [h, ltS_irr]; simp), if_pos h]
theorem putR_gt {key : ByteArray} {x : T} {p : ByteArray × T} {r : List (ByteArray × T)} (h : ltS p.1 key = false) (h2 : p.1 ≠ key) : putR key x (p :: r) = (key, x) :: p :: r := by
  rw [putR, if_neg (by simp [h]), if_neg h2]

theorem putR_cases (p : ByteArray × T) (key : ByteArray) : (ltS p.1 key = true ∧ p.1 ≠ key) ∨ (p.1 = key) ∨ (ltS p.1 key = false ∧ p.1 ≠ key) := by
  by_cases h : p.1 = key
  · exact .inr (.inl h)
  · cases h2 : ltS p.1 key with
    | true => exact .inl ⟨rfl, h⟩
    | false => exact .inr (.inr ⟨rfl, h⟩)

theorem putR_find (key : ByteArray) (x : T) : ∀ m, findR key (putR key x m) = some x
  | [] => findR_here rfl
  | p :: r => by
    rcases putR_cases p key with ⟨h, hn⟩ | h | ⟨h, hn⟩
    · rw [putR_lt h, findR_skip hn, putR_find key x r]
    · rw [putR_eq h]; exact findR_here rfl
    · rw [putR_gt h hn]; exact findR_here rfl

theorem putR_other (key other : ByteArray) (x : T) (ho : other ≠ key) : ∀ m, findR other (putR key x m) = findR other m
  | [] => by
    show findR other [(key, x)] = findR other []
    exact findR_skip (p := (key, x)) (fun e => ho e.symm)
  | p :: r => by
    rcases putR_cases p key with ⟨h, hn⟩ | h | ⟨h, hn⟩
    · rw [putR_lt h]
      by_cases e : p.1 = other
      · rw [findR_here e, findR_here e]
      · rw [findR_skip e, findR_skip e, putR_other key other x ho r]
    · rw [putR_eq h, findR_skip (p := p) (by rw [h]; exact fun e => ho e.symm)]; exact findR_skip (p := (key, x)) (fun e => ho e.symm)
    · rw [putR_gt h hn]; exact findR_skip (p := (key, x)) (fun e => ho e.symm)

theorem putR_twice (key : ByteArray) (x y : T) : ∀ m, putR key x (putR key y m) = putR key x m
  | [] => by
    show putR key x [(key, y)] = [(key, x)]
    exact putR_eq (p := (key, y)) rfl
  | p :: r => by
    rcases putR_cases p key with ⟨h, hn⟩ | h | ⟨h, hn⟩
    · rw [putR_lt h, putR_lt h, putR_lt h, putR_twice key x y r]
    · rw [putR_eq h, putR_eq h]; exact putR_eq (p := (key, y)) rfl
    · rw [putR_gt h hn, putR_gt h hn]; exact putR_eq (p := (key, y)) rfl

/-- Without a key. -/
def dropR (key : ByteArray) (m : List (ByteArray × T)) : List (ByteArray × T) := m.filter fun p => !decide (p.1 = key)
theorem dropR_find (key : ByteArray) (m : List (ByteArray × T)) : findR key (dropR key m) = none := by
  unfold findR dropR
  rw [List.find?_eq_none.2 fun p hp => by have := (List.mem_filter.1 hp).2; simpa using this]
  rfl

/-- A map with a value under a key; of others a map with that alone. -/
def T.put (t : T) (key : ByteArray) (x : T) : T := .mk 5 false 0 ⟨#[]⟩ [] (putR key x t.pairs)
/-- A map without a key; others are as they are. -/
def T.drop (t : T) (key : ByteArray) : T := if t.kind = 5 then .mk 5 false 0 ⟨#[]⟩ [] (dropR key t.map) else t

theorem T.get_find (t : T) (key : ByteArray) : t.get key = findR key t.pairs := rfl
theorem put_pairs (t : T) (key : ByteArray) (x : T) : (t.put key x).pairs = putR key x t.pairs := by rw [T.put, T.pairs, if_pos rfl]
theorem get_put (t : T) (key : ByteArray) (x : T) : (t.put key x).get key = some x := by rw [T.get_find, put_pairs, putR_find]
theorem get_put_other (t : T) (key other : ByteArray) (x : T) (h : other ≠ key) : (t.put key x).get other = t.get other := by rw [T.get_find, put_pairs, putR_other key other x h, T.get_find]
theorem put_put (t : T) (key : ByteArray) (x y : T) : (t.put key y).put key x = t.put key x := by
  rw [T.put, put_pairs, putR_twice, T.put]
theorem get_drop (t : T) (key : ByteArray) : (t.drop key).get key = none := by
  obtain ⟨k, b, n, s, l, m⟩ := t
  unfold T.drop
  by_cases h : k = 5
  · rw [if_pos (show (T.mk k b n s l m).kind = 5 from h), T.get_find, T.pairs, if_pos rfl, dropR_find]
  · rw [if_neg (show ¬ (T.mk k b n s l m).kind = 5 from h), T.get_find, T.pairs, if_neg h]
    rfl

end Go.Proofs.YtbmlmcoepmbelaaDoor
