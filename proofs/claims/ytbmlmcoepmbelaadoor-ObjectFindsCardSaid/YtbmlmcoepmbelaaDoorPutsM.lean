/-
  A map with a value under a key, and without one: on the trees alone.
-/
import Derived.Test.YtbmlmcoepmbelaaDoorGet
set_option linter.unusedVariables false
set_option linter.unusedSimpArgs false
namespace Go.Proofs.YtbmlmcoepmbelaaDoor
open Go.RowKit

/-- Go's '<' on texts. -/
def ltS (a b : ByteArray) : Bool := Op.bytesLess a.toList b.toList

/-- The pairs below, this one, the pairs above. -/
def putR (key : ByteArray) (x : T) : List (ByteArray × T) → List (ByteArray × T)
  | [] => [(key, x)]
  | p :: r => if ltS p.1 key = true then p :: putR key x r else if p.1 = key then (key, x) :: r else (key, x) :: p :: r

/-- What is under a key. -/
def findR (key : ByteArray) (m : List (ByteArray × T)) : Option T := (m.find? fun p => decide (p.1 = key)).map (·.2)

theorem findR_skip {key : ByteArray} {p : ByteArray × T} {r : List (ByteArray × T)} (h : p.1 ≠ key) : findR key (p :: r) = findR key r := by
  unfold findR
  rw [List.find?_cons_of_neg (by simpa using h)]
theorem findR_here {key : ByteArray} {p : ByteArray × T} {r : List (ByteArray × T)} (h : p.1 = key) : findR key (p :: r) = some p.2 := by
  unfold findR
  rw [List.find?_cons_of_pos (by simpa using h)]
  rfl

theorem ltS_ne {a b : ByteArray} (h : ltS a b = true) (irr : ∀ l, Op.bytesLess l l = false) : a ≠ b := fun e => by
  subst e
  unfold ltS at h
  rw [irr] at h
  cases h

theorem bytesLess_irr : ∀ l : List UInt8, Op.bytesLess l l = false
  | [] => rfl
  | x :: r => by
    rw [Op.bytesLess]
    simp [bytesLess_irr r]

theorem ltS_irr (a : ByteArray) : ltS a a = false := bytesLess_irr _

theorem putR_lt {key : ByteArray} {x : T} {p : ByteArray × T} {r : List (ByteArray × T)} (h : ltS p.1 key = true) : putR key x (p :: r) = p :: putR key x r := by rw [putR, if_pos h]
theorem putR_eq {key : ByteArray} {x : T} {p : ByteArray × T} {r : List (ByteArray × T)} (h : p.1 = key) : putR key x (p :: r) = (key, x) :: r := by
  rw [putR, if_neg (by rw [h, ltS_irr]; simp), if_pos h]
theorem putR_gt {key : ByteArray} {x : T} {p : ByteArray × T} {r : List (ByteArray × T)} (h : ltS p.1 key = false) (h2 : p.1 ≠ key) : putR key x (p :: r) = (key, x) :: p :: r := by
  rw [putR, if_neg (by simp [h]), if_neg h2]

theorem putR_cases (p : ByteArray × T) (key : ByteArray) : (ltS p.1 key = true ∧ p.1 ≠ key) ∨ (p.1 = key) ∨ (ltS p.1 key = false ∧ p.1 ≠ key) := by
  by_cases h : p.1 = key
  · exact .inr (.inl h)
  · cases h2 : ltS p.1 key with
    | true => exact .inl ⟨rfl, h⟩
    | false => exact .inr (.inr ⟨rfl, h⟩)

theorem putR_find (key : ByteArray) (x : T) : ∀ m, findR key (putR key x m) = some x
  | [] => findR_here rfl
  | p :: r => by
    rcases putR_cases p key with ⟨h, hn⟩ | h | ⟨h, hn⟩
    · rw [putR_lt h, findR_skip hn, putR_find key x r]
    · rw [putR_eq h]; exact findR_here rfl
    · rw [putR_gt h hn]; exact findR_here rfl

theorem putR_other (key other : ByteArray) (x : T) (ho : other ≠ key) : ∀ m, findR other (putR key x m) = findR other m
  | [] => by
    show findR other [(key, x)] = findR other []
    exact findR_skip (p := (key, x)) (fun e => ho e.symm)
  | p :: r => by
    rcases putR_cases p key with ⟨h, hn⟩ | h | ⟨h, hn⟩
    · rw [putR_lt h]
      by_cases e : p.1 = other
      · rw [findR_here e, findR_here e]
      · rw [findR_skip e, findR_skip e, putR_other key other x ho r]
    · rw [putR_eq h, findR_skip (p := p) (by rw [h]; exact fun e => ho e.symm)]; exact findR_skip (p := (key, x)) (fun e => ho e.symm)
    · rw [putR_gt h hn]; exact findR_skip (p := (key, x)) (fun e => ho e.symm)

theorem putR_twice (key : ByteArray) (x y : T) : ∀ m, putR key x (putR key y m) = putR key x m
  | [] => by
    show putR key x [(key, y)] = [(key, x)]
    exact putR_eq (p := (key, y)) rfl
  | p :: r => by
    rcases putR_cases p key with ⟨h, hn⟩ | h | ⟨h, hn⟩
    · rw [putR_lt h, putR_lt h, putR_lt h, putR_twice key x y r]
    · rw [putR_eq h, putR_eq h]; exact putR_eq (p := (key, y)) rfl
    · rw [putR_gt h hn, putR_gt h hn]; exact putR_eq (p := (key, y)) rfl

/-- Without a key. -/
def dropR (key : ByteArray) (m : List (ByteArray × T)) : List (ByteArray × T) := m.filter fun p => !decide (p.1 = key)
theorem dropR_find (key : ByteArray) (m : List (ByteArray × T)) : findR key (dropR key m) = none := by
  unfold findR dropR
  rw [List.find?_eq_none.2 fun p hp => by have := (List.mem_filter.1 hp).2; simpa using this]
  rfl

/-- A map with a value under a key; of others a map with that alone. -/
def T.put (t : T) (key : ByteArray) (x : T) : T := .mk 5 false 0 ⟨#[]⟩ [] (putR key x t.pairs)
/-- A map without a key; others are as they are. -/
def T.drop (t : T) (key : ByteArray) : T := if t.kind = 5 then .mk 5 false 0 ⟨#[]⟩ [] (dropR key t.map) else t

theorem T.get_find (t : T) (key : ByteArray) : t.get key = findR key t.pairs := rfl
theorem put_pairs (t : T) (key : ByteArray) (x : T) : (t.put key x).pairs = putR key x t.pairs := by rw [T.put, T.pairs, if_pos rfl]
theorem get_put (t : T) (key : ByteArray) (x : T) : (t.put key x).get key = some x := by rw [T.get_find, put_pairs, putR_find]
theorem get_put_other (t : T) (key other : ByteArray) (x : T) (h : other ≠ key) : (t.put key x).get other = t.get other := by rw [T.get_find, put_pairs, putR_other key other x h, T.get_find]
theorem put_put (t : T) (key : ByteArray) (x y : T) : (t.put key y).put key x = t.put key x := by
  rw [T.put, put_pairs, putR_twice, T.put]
theorem get_drop (t : T) (key : ByteArray) : (t.drop key).get key = none := by
  obtain ⟨k, b, n, s, l, m⟩ := t
  unfold T.drop
  by_cases h : k = 5
  · rw [if_pos (show (T.mk k b n s l m).kind = 5 from h), T.get_find, T.pairs, if_pos rfl, dropR_find]
  · rw [if_neg (show ¬ (T.mk k b n s l m).kind = 5 from h), T.get_find, T.pairs, if_neg h]
    rfl

end Go.Proofs.YtbmlmcoepmbelaaDoor

/-
  Values laid over others: on the trees alone.
-/
set_option linter.unusedVariables false
set_option linter.unusedSimpArgs false
namespace Go.Proofs.YtbmlmcoepmbelaaDoor
open Go.RowKit

abbrev Prs := List (ByteArray × T)

/-- Those below a key. -/
def cutB (key : ByteArray) : Prs → Prs
  | [] => []
  | p :: r => if ltS p.1 key = true then p :: cutB key r else []
/-- What stands under it, or nothing. -/
def cutH (key : ByteArray) : Prs → T
  | [] => T.nil
  | p :: r => if ltS p.1 key = true then cutH key r else if p.1 = key then p.2 else T.nil
/-- Those above. -/
def cutA (key : ByteArray) : Prs → Prs
  | [] => []
  | p :: r => if ltS p.1 key = true then cutA key r else if p.1 = key then r else p :: r

mutual
/-- u laid over t. -/
def T.over (t : T) : T → T
  | .mk k b n s l m => if k = 5 then .mk 5 false 0 ⟨#[]⟩ [] (overR t.pairs m) else .mk k b n s l m
termination_by u => SizeOf.sizeOf u
decreasing_by simp only [T.mk.sizeOf_spec]; omega
def overR (rest : Prs) : Prs → Prs
  | [] => rest
  | p :: ps => cutB p.1 rest ++ ((if p.2.kind = 0 then [] else [(p.1, T.over (cutH p.1 rest) p.2)]) ++ overR (cutA p.1 rest) ps)
termination_by m => SizeOf.sizeOf m
decreasing_by
  · obtain ⟨a, b⟩ := p
    simp only [List.cons.sizeOf_spec, Prod.mk.sizeOf_spec]; omega
  · simp only [List.cons.sizeOf_spec]; omega
end

theorem over_map (t : T) (b : Bool) (n : Int) (s : ByteArray) (l : List T) (m : Prs) : T.over t (.mk 5 b n s l m) = .mk 5 false 0 ⟨#[]⟩ [] (overR t.pairs m) := by rw [T.over, if_pos rfl]
theorem over_other (t : T) {k : Int} (b : Bool) (n : Int) (s : ByteArray) (l : List T) (m : Prs) (h : k ≠ 5) : T.over t (.mk k b n s l m) = .mk k b n s l m := by rw [T.over, if_neg h]
theorem overR_nil (rest : Prs) : overR rest [] = rest := by rw [overR]
theorem overR_cons (rest : Prs) (p : ByteArray × T) (ps : Prs) : overR rest (p :: ps) = cutB p.1 rest ++ ((if p.2.kind = 0 then [] else [(p.1, T.over (cutH p.1 rest) p.2)]) ++ overR (cutA p.1 rest) ps) := by rw [overR]

/-- Where a key cuts. -/
theorem cut_at (key : ByteArray) : ∀ (i : Nat) (ps : Prs), i ≤ ps.length → (∀ j (h : j < ps.length), j < i → ltS ps[j].1 key = true) → (∀ h : i < ps.length, ltS ps[i].1 key = false) →
    cutB key ps = ps.take i ∧ ((∃ h : i < ps.length, ps[i].1 = key ∧ cutH key ps = ps[i].2 ∧ cutA key ps = ps.drop (i + 1)) ∨ ((∀ h : i < ps.length, ps[i].1 ≠ key) ∧ cutH key ps = T.nil ∧ cutA key ps = ps.drop i))
  | 0, [], _, _, _ => ⟨rfl, .inr ⟨fun h => absurd h (by simp), rfl, rfl⟩⟩
  | 0, p :: r, _, _, h1 => by
    have hf : ltS p.1 key = false := h1 (by simp)
    have n1 : ¬ ltS p.1 key = true := by simp [hf]
    refine ⟨by rw [cutB, if_neg n1]; rfl, ?_⟩
    by_cases e : p.1 = key
    · exact .inl ⟨by simp, e, by rw [cutH, if_neg n1, if_pos e]; rfl, by rw [cutA, if_neg n1, if_pos e]; rfl⟩
    · exact .inr ⟨fun _ => e, by rw [cutH, if_neg n1, if_neg e], by rw [cutA, if_neg n1, if_neg e]; rfl⟩
  | i + 1, [], h, _, _ => absurd h (by simp)
  | i + 1, p :: r, h, h0, h1 => by
    have hf : ltS p.1 key = true := h0 0 (by simp) (by omega)
    obtain ⟨e1, e2⟩ := cut_at key i r (by simpa using h) (fun j hj hij => by have := h0 (j + 1) (by simpa using hj) (by omega); simpa using this) (fun hi => by have := h1 (by simpa using hi); simpa using this)
    refine ⟨by rw [cutB, if_pos hf, e1]; rfl, ?_⟩
    rcases e2 with ⟨hi, e, a1, a2⟩ | ⟨hn, a1, a2⟩
    · exact .inl ⟨by simpa using hi, by simpa using e, by rw [cutH, if_pos hf, a1]; simp, by rw [cutA, if_pos hf, a2]; simp⟩
    · exact .inr ⟨fun hi => by simpa using hn (by simpa using hi), by rw [cutH, if_pos hf, a1], by rw [cutA, if_pos hf, a2]; simp⟩

theorem cut_len (key : ByteArray) : ∀ ps : Prs, (cutB key ps).length + (cutA key ps).length ≤ ps.length
  | [] => by simp [cutB, cutA]
  | p :: r => by
    have := cut_len key r
    rw [cutB, cutA]
    split
    · simp; omega
    · split <;> simp

end Go.Proofs.YtbmlmcoepmbelaaDoor
