/-
  Places in a value, as package path has them: pure.
-/
import Derived.Test.YtbbpipjadniafaaDoorPuts
import Derived.Test.YtbbpipjadniafaaDoorGet
set_option linter.unusedVariables false
set_option linter.unusedSimpArgs false
namespace Go.Proofs.YtbbpipjadniafaaDoor
open Go.RowKit

/-- What stands at a path. -/
def atL : List ByteArray → T → Option T
  | [], t => some t
  | k :: r, t => (t.get k).bind (atL r)
/-- What stands under a key, or nothing. -/
def inL (k : ByteArray) (t : T) : T := (t.get k).getD T.nil
/-- A value with another one at a path. -/
def putL : List ByteArray → T → T → T
  | [], _, x => x
  | k :: r, t, x => t.put k (putL r (inL k t) x)
/-- What each step is taken in. -/
def wayL : List ByteArray → T → List T
  | [], _ => []
  | k :: r, t => t :: wayL r (inL k t)
/-- The value whose way that is. -/
def rbL : List T → List ByteArray → T → T
  | t :: ts, k :: ks, x => t.put k (rbL ts ks x)
  | _, _, x => x
/-- A value without what stands at a path that is there. -/
def dropL : List ByteArray → T → T
  | [], _ => T.nil
  | [k], t => t.drop k
  | k :: k2 :: r, t => t.put k (dropL (k2 :: r) (inL k t))
def dropAt (l : List ByteArray) (t : T) : T := if (atL l t).isSome then dropL l t else t
/-- How many steps stay when maps go that are empty then. -/
def pruneN (ws : List T) : Nat → Nat
  | 0 => 0
  | 1 => 1
  | n + 2 => if ((ws[n + 1]?).map fun t => t.map.length) = some 1 then pruneN ws (n + 1) else n + 2
def pruneAt (l : List ByteArray) (t : T) : T := if (atL l t).isSome then dropAt (l.take (pruneN (wayL l t) l.length)) t else t

theorem way_len : ∀ (l : List ByteArray) (t : T), (wayL l t).length = l.length
  | [], _ => rfl
  | k :: r, t => by rw [wayL, List.length_cons, way_len r, List.length_cons]
theorem rb_way : ∀ (l : List ByteArray) (t x : T), rbL (wayL l t) l x = putL l t x
  | [], _, _ => rfl
  | k :: r, t, x => by rw [wayL, rbL, rb_way r, putL]
theorem rb_nil (ks : List ByteArray) (x : T) : rbL [] ks x = x := by cases ks <;> rfl
theorem rb_step (ts : List T) (ks : List ByteArray) (x : T) (i : Nat) (h1 : i < ts.length) (h2 : i < ks.length) : rbL (ts.drop i) (ks.drop i) x = (ts[i]).put ks[i] (rbL (ts.drop (i + 1)) (ks.drop (i + 1)) x) := by
  rw [List.drop_eq_getElem_cons h1, List.drop_eq_getElem_cons h2, rbL]
theorem rb_end (ts : List T) (ks : List ByteArray) (x : T) : rbL (ts.drop ts.length) (ks.drop ts.length) x = x := by rw [List.drop_length, rb_nil]
theorem rb_drop : ∀ (l : List ByteArray) (t : T) (n : Nat) (hn : l.length = n + 1) (h : n < (wayL l t).length) (h2 : n < l.length), rbL ((wayL l t).take n) l ((wayL l t)[n].drop l[n]) = dropL l t
  | [], _, _, hn, _, _ => by cases hn
  | [k], t, n, hn, h, h2 => by
    obtain rfl : n = 0 := by simpa using hn.symm
    rfl
  | k :: k2 :: r, t, 0, hn, h, h2 => by simp at hn
  | k :: k2 :: r, t, n + 1, hn, h, h2 => by
    show rbL (t :: (wayL (k2 :: r) (inL k t)).take n) (k :: k2 :: r) _ = _
    rw [rbL, dropL]
    congr 1
    exact rb_drop (k2 :: r) (inL k t) n (by simpa using hn) (by rw [way_len]; simpa using h2) (by simpa using h2)

/-- The place of a key that was put. -/
theorem putR_here (key : ByteArray) (x y : T) : ∀ m : List (ByteArray × T), ∃ j : Nat, j < (putR key y m).length ∧ keyIx (putR key y m) key = j ∧ putR key x m = (putR key y m).set j (key, x) ∧ (putR key y m)[j]? = some (key, y)
  | [] => ⟨0, by simp [putR], by simp [keyIx, putR], by simp [putR], by simp [putR]⟩
  | p :: r => by
    rcases putR_cases p key with ⟨h, hn⟩ | h | ⟨h, hn⟩
    · obtain ⟨j, h1, h2, h3, h4⟩ := putR_here key x y r
      refine ⟨j + 1, by rw [putR_lt h]; simpa using h1, ?_, by rw [putR_lt h, putR_lt h, h3]; rfl, by rw [putR_lt h]; simpa using h4⟩
      rw [putR_lt h]
      unfold keyIx at h2 ⊢
      rw [List.findIdx?_cons]
      rw [decide_eq_false hn]
      cases hf : List.findIdx? (fun p => decide (p.1 = key)) (putR key y r) with
      | none => rw [hf] at h2; simp only at h2; omega
      | some i => rw [hf] at h2; simp only at h2; simp; omega
    · exact ⟨0, by rw [putR_eq h]; simp, by rw [putR_eq h]; unfold keyIx; rw [List.findIdx?_cons]; simp, by rw [putR_eq h, putR_eq h]; rfl, by rw [putR_eq h]; rfl⟩
    · exact ⟨0, by rw [putR_gt h hn]; simp, by rw [putR_gt h hn]; unfold keyIx; rw [List.findIdx?_cons]; simp, by rw [putR_gt h hn, putR_gt h hn]; rfl, by rw [putR_gt h hn]; rfl⟩

end Go.Proofs.YtbbpipjadniafaaDoor
