/-
  Package slices' Equal of texts; package path's Begins; the law's Steps and awake.
-/
import Derived.Test.YtfmlhdkodnbfaaaPathQ
import Derived.Test.YtfmlhdkodnbfaaaText
set_option linter.unusedVariables false
set_option linter.unusedSimpArgs false
namespace Go.Proofs.Ytfmlhdkodnbfaaa
open Go.RowKit

/-- Are these the same texts? -/
def sameS (xs ys : List ByteArray) : Bool := decide (xs = ys)
theorem same_up {xs ys : List ByteArray} (hl : xs.length = ys.length) : sameS xs ys = true ↔ ∀ i (h : i < xs.length) (h2 : i < ys.length), xs[i] = ys[i] := by
  rw [sameS, decide_eq_true_eq]
  exact ⟨fun e i h h2 => by subst e; rfl, fun h => List.ext_getElem hl h⟩

/-- Does a path begin as another one does? -/
def beginsB (ks ms : List ByteArray) : Bool := decide (ms.length ≤ ks.length) && sameS (ks.take ms.length) ms

/-- May these be steps? -/
def stepsB (ks : List ByteArray) : Bool := ks.all keyB && decide (ks.length ≤ 14)

end Go.Proofs.Ytfmlhdkodnbfaaa

/-
  Places in a value: what is put is there, what is dropped or pruned is gone, all else stays: pure.
-/
set_option linter.unusedVariables false
set_option linter.unusedSimpArgs false
namespace Go.Proofs.Ytfmlhdkodnbfaaa
open Go.RowKit

theorem nil_get (k : ByteArray) : T.nil.get k = none := rfl
theorem at_nil {l : List ByteArray} (h : l ≠ []) : atL l T.nil = none := by
  cases l with
  | nil => exact absurd rfl h
  | cons k r => rw [atL, nil_get]; rfl
theorem at_in {k : ByteArray} {r : List ByteArray} (t : T) (h : r ≠ []) : atL (k :: r) t = atL r (inL k t) := by
  rw [atL, inL]
  cases t.get k with
  | none => rw [Option.getD_none, at_nil h]; rfl
  | some u => rfl
theorem at_put : ∀ (l : List ByteArray) (t x : T), atL l (putL l t x) = some x
  | [], _, _ => rfl
  | k :: r, t, x => by
    rw [putL, atL, get_put]
    exact at_put r (inL k t) x
theorem at_append : ∀ (a b : List ByteArray) (t : T), atL (a ++ b) t = (atL a t).bind (atL b)
  | [], _, _ => rfl
  | k :: a, b, t => by
    rw [List.cons_append, atL, atL]
    cases t.get k with
    | none => rfl
    | some u => exact at_append a b u
theorem at_dropL : ∀ (l : List ByteArray) (t : T), l ≠ [] → atL l (dropL l t) = none
  | [], _, h => absurd rfl h
  | [k], t, _ => by rw [dropL, atL, get_drop]; rfl
  | k :: k2 :: r, t, _ => by
    rw [dropL, atL, get_put]
    exact at_dropL (k2 :: r) (inL k t) (by simp)
theorem at_dropAt (l : List ByteArray) (t : T) (h : l ≠ []) : atL l (dropAt l t) = none := by
  rw [dropAt]
  by_cases hs : (atL l t).isSome = true
  · rw [if_pos hs]; exact at_dropL l t h
  · rw [if_neg hs]
    cases ha : atL l t with
    | none => rfl
    | some u => rw [ha] at hs; exact absurd rfl hs
theorem pruneN_le (ws : List T) : ∀ n, pruneN ws n ≤ n
  | 0 => Nat.le_refl _
  | 1 => Nat.le_refl _
  | n + 2 => by
    rw [pruneN]
    split
    · have := pruneN_le ws (n + 1); omega
    · exact Nat.le_refl _
theorem pruneN_pos (ws : List T) : ∀ n, 1 ≤ n → 1 ≤ pruneN ws n
  | 0, h => by omega
  | 1, _ => Nat.le_refl _
  | n + 2, _ => by
    rw [pruneN]
    split
    · exact pruneN_pos ws (n + 1) (by omega)
    · omega
theorem at_pruneAt (l : List ByteArray) (t : T) (h : l ≠ []) : atL l (pruneAt l t) = none := by
  rw [pruneAt]
  by_cases hs : (atL l t).isSome = true
  · rw [if_pos hs]
    have hl : 1 ≤ l.length := by cases l with | nil => exact absurd rfl h | cons _ _ => simp
    have h1 := pruneN_pos (wayL l t) l.length hl
    have h2 := pruneN_le (wayL l t) l.length
    generalize pruneN (wayL l t) l.length = n at h1 h2
    have hne : l.take n ≠ [] := by
      intro e
      have h3 : min n l.length = 0 := by rw [← List.length_take, e]; rfl
      omega
    have := at_append (l.take n) (l.drop n) (dropAt (l.take n) t)
    rw [List.take_append_drop, at_dropAt _ _ hne] at this
    exact this
  · rw [if_neg hs]
    cases ha : atL l t with
    | none => rfl
    | some u => rw [ha] at hs; exact absurd rfl hs

theorem begins_nil (l : List ByteArray) : beginsB l [] = true := by simp [beginsB, sameS]
theorem begins_cons (k : ByteArray) (l m : List ByteArray) : beginsB (k :: l) (k :: m) = beginsB l m := by
  unfold beginsB sameS
  simp
theorem at_put_other : ∀ (l m : List ByteArray) (t x : T), beginsB l m = false → beginsB m l = false → atL m (putL l t x) = atL m t
  | [], m, _, _, _, h => by rw [begins_nil] at h; cases h
  | _ :: _, [], _, _, h, _ => by rw [begins_nil] at h; cases h
  | k :: l, k' :: m, t, x, h1, h2 => by
    by_cases hk : k' = k
    · subst hk
      rw [begins_cons] at h1 h2
      have hm : m ≠ [] := fun e => by rw [e, begins_nil] at h1; cases h1
      rw [putL, atL, get_put]
      show atL m (putL l (inL k' t) x) = _
      rw [at_put_other l m (inL k' t) x h1 h2, at_in t hm]
    · rw [putL, atL, get_put_other _ _ _ _ hk, atL]

end Go.Proofs.Ytfmlhdkodnbfaaa
