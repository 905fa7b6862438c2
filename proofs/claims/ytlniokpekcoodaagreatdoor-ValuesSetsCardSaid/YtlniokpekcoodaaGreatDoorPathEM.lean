/-
  Package path's Drop.
-/
import Derived.Test.YtlniokpekcoodaaGreatDoorPathCM
import Derived.Test.YtlniokpekcoodaaGreatDoorSpecsEM
import Derived.Test.YtlniokpekcoodaaGreatDoorOverZM
import Derived.Test.YtlniokpekcoodaaGreatDoorROverPVM
import Derived.Test.YtlniokpekcoodaaGreatDoorLeastM
import Derived.Test.YtlniokpekcoodaaGreatDoorRCompareM
import Derived.Test.YtlniokpekcoodaaGreatDoorGoodM
import Derived.Test.YtlniokpekcoodaaGreatDoorRPutV
import Derived.Test.YtlniokpekcoodaaGreatDoorMapTopM
import Derived.Test.YtlniokpekcoodaaGreatDoorSpecsM
set_option linter.unusedVariables false
set_option linter.unusedSimpArgs false
namespace Go.Proofs.YtlniokpekcoodaaGreatDoor
open Go.RowKit

end Go.Proofs.YtlniokpekcoodaaGreatDoor

/-
  Package path's Prune.
-/
set_option linter.unusedVariables false
set_option linter.unusedSimpArgs false
namespace Go.Proofs.YtlniokpekcoodaaGreatDoor
open Go.RowKit

end Go.Proofs.YtlniokpekcoodaaGreatDoor

/-
  Package slices' Equal of texts; package path's Begins; the law's Steps and awake.
-/
set_option linter.unusedVariables false
set_option linter.unusedSimpArgs false
namespace Go.Proofs.YtlniokpekcoodaaGreatDoor
open Go.RowKit

/-- Are these the same texts? -/
def sameS (xs ys : List ByteArray) : Bool := decide (xs = ys)
/-- Does a path begin as another one does? -/
def beginsB (ks ms : List ByteArray) : Bool := decide (ms.length ≤ ks.length) && sameS (ks.take ms.length) ms

/-- May these be steps? -/
def stepsB (ks : List ByteArray) : Bool := ks.all keyB && decide (ks.length ≤ 14)

end Go.Proofs.YtlniokpekcoodaaGreatDoor

/-
  Places in a value: what is put is there, what is dropped or pruned is gone, all else stays: pure.
-/
set_option linter.unusedVariables false
set_option linter.unusedSimpArgs false
namespace Go.Proofs.YtlniokpekcoodaaGreatDoor
open Go.RowKit

end Go.Proofs.YtlniokpekcoodaaGreatDoor

/-
  The reference's places, and what they are for a value that may be: pure.
-/
set_option linter.unusedVariables false
set_option linter.unusedSimpArgs false
namespace Go.Proofs.YtlniokpekcoodaaGreatDoor
open Go.RowKit Go.Sort

/-- The reference's Drop. -/
def rdropT (key : ByteArray) : T → T
  | .mk k b n s l m => .mk k b n s l (dropR key m)
/-- The reference's Put at a path. -/
def putQ : List ByteArray → T → T → T
  | [], _, x => x
  | k :: r, t, x => .mk 5 false 0 ⟨#[]⟩ [] (rputG k (putQ r ((findR k t.map).getD T.nil) x) false (if t.kind = 5 then t.map else []))
/-- The reference's Drop at a path. -/
def dropQ : List ByteArray → T → T
  | [], _ => T.nil
  | k :: r, t => if (findR k t.map).isSome then (if r = [] then rdropT k t else .mk 5 false 0 ⟨#[]⟩ [] (rputG k (dropQ r ((findR k t.map).getD T.nil)) false t.map)) else t
/-- The reference's Prune. -/
def pruneQ : List ByteArray → T → T
  | [], _ => T.nil
  | k :: r, t => if (getQ (k :: r) t).isSome then (if r = [] then rdropT k t else if (pruneQ r ((findR k t.map).getD T.nil)).map.length = 0 then rdropT k t else .mk 5 false 0 ⟨#[]⟩ [] (rputG k (pruneQ r ((findR k t.map).getD T.nil)) false t.map)) else t

/-- What a value that may be has. -/
structure Fine (t : T) : Prop where
  pairs : t.map = t.pairs
  asc : Asc t.pairs
  each : ∀ q ∈ t.pairs, q.2.parts = 0
  five : t.pairs ≠ [] → t = .mk 5 false 0 ⟨#[]⟩ [] t.pairs
  drop : ∀ key, rdropT key t = t.drop key
theorem fine_of {t : T} (h : t.parts = 0) : Fine t := by
  obtain ⟨k, b, n, s, l, m⟩ := t
  have hp := parts_zero h
  obtain ⟨-, -, hb, hn, hs, hl, hm⟩ := kind_parts hp.kind
  by_cases hk : k = 5
  · subst hk
    have e : (T.mk 5 b n s l m).pairs = m := by rw [T.pairs, if_pos rfl]
    have e2 : T.mk 5 b n s l m = .mk 5 false 0 ⟨#[]⟩ [] m := by rw [hb (by decide), hn (by decide), hs (by decide), hl (by decide)]
    refine ⟨by rw [e]; rfl, by rw [e]; exact asc_of_rise m hp.rise, by rw [e]; exact hp.map, fun _ => by rw [e]; exact e2, fun key => ?_⟩
    rw [e2]
    show T.mk 5 false 0 ⟨#[]⟩ [] (dropR key m) = if (5 : Int) = 5 then _ else _
    rw [if_pos rfl]
    rfl
  · have e : (T.mk k b n s l m).pairs = [] := by rw [T.pairs, if_neg hk]
    have em := hm hk
    subst em
    refine ⟨by rw [e]; rfl, by rw [e]; exact List.Pairwise.nil, by rw [e]; simp, fun h => absurd e h, fun key => ?_⟩
    show T.mk k b n s l (dropR key []) = T.drop _ key
    unfold T.drop
    rw [if_neg (show ¬ (T.mk k b n s l []).kind = 5 from hk)]
    rfl
theorem find_mem {key : ByteArray} {m : Prs} {u : T} (h : findR key m = some u) : (key, u) ∈ m := by
  unfold findR at h
  cases hf : m.find? fun p => decide (p.1 = key) with
  | none => rw [hf] at h; cases h
  | some p =>
    rw [hf] at h
    have h1 := List.find?_some hf
    have h2 := List.mem_of_find?_eq_some hf
    obtain ⟨a, v⟩ := p
    have e1 : v = u := by simpa using h
    have e2 : a = key := by simpa using h1
    rw [e1, e2] at h2
    exact h2
theorem Fine.inner {t : T} (h : Fine t) (key : ByteArray) : ((findR key t.map).getD T.nil).parts = 0 := by
  rw [h.pairs]
  cases hf : findR key t.pairs with
  | none => exact nil_parts
  | some u => exact h.each _ (find_mem hf)
theorem Fine.inL {t : T} (h : Fine t) (key : ByteArray) : (findR key t.map).getD T.nil = inL key t := by rw [h.pairs]; rfl
theorem Fine.put {t : T} (h : Fine t) (key : ByteArray) (x : T) : T.mk 5 false 0 ⟨#[]⟩ [] (rputG key x false t.map) = t.put key x := by
  rw [h.pairs, rputG_put key x h.asc]
  rfl
theorem Fine.putK {t : T} (h : Fine t) (key : ByteArray) (x : T) : T.mk 5 false 0 ⟨#[]⟩ [] (rputG key x false (if t.kind = 5 then t.map else [])) = t.put key x := by
  have e : (if t.kind = 5 then t.map else []) = t.pairs := by
    obtain ⟨k, b, n, s, l, m⟩ := t
    rfl
  rw [e, rputG_put key x h.asc]
  rfl
theorem putR_same {key : ByteArray} {u : T} : ∀ {m : Prs}, Asc m → findR key m = some u → putR key u m = m
  | [], _, h => by cases h
  | p :: r, ha, h => by
    rcases putR_cases p key with ⟨hl, hn⟩ | he | ⟨hl, hn⟩
    · rw [findR_skip hn] at h
      rw [putR_lt hl, putR_same ha.tail h]
    · rw [findR_here he] at h
      rw [putR_eq he]
      obtain ⟨a, v⟩ := p
      have e : v = u := by simpa using h
      have e2 : a = key := he
      rw [e, e2]
    · rw [findR_skip hn] at h
      have h1 := ha.head _ (find_mem h)
      have h2 := ltS_trans (ltS_total hl hn) h1
      rw [ltS_irr] at h2
      cases h2
theorem Fine.same {t u : T} (h : Fine t) {key : ByteArray} (hg : findR key t.map = some u) : t.put key u = t := by
  rw [h.pairs] at hg
  have hne : t.pairs ≠ [] := fun e => by rw [e] at hg; cases hg
  have e := h.five hne
  rw [T.put, putR_same h.asc hg]
  exact e.symm

theorem putQ_put : ∀ (l : List ByteArray) (t x : T), t.parts = 0 → putQ l t x = putL l t x
  | [], _, _, _ => rfl
  | k :: r, t, x, h => by
    have hf := fine_of h
    rw [putQ, putL, hf.putK, putQ_put r _ x (hf.inner k), hf.inL]
/-- A value without what stands at a path, and without the maps that are empty then. -/
def pruneL (l : List ByteArray) (t : T) : T := dropL (l.take (pruneN (wayL l t) l.length)) t
theorem dropR_length {key : ByteArray} {u : T} : ∀ {m : Prs}, Asc m → findR key m = some u → (dropR key m).length + 1 = m.length
  | [], _, h => by cases h
  | p :: r, ha, h => by
    by_cases he : p.1 = key
    · have : dropR key r = r := by
        unfold dropR
        rw [List.filter_eq_self]
        intro q hq
        have := ha.head q hq
        simp only [Bool.not_eq_true', decide_eq_false_iff_not]
        intro e
        rw [e, he, ltS_irr] at this
        cases this
      have e2 : dropR key (p :: r) = dropR key r := by unfold dropR; rw [List.filter_cons_of_neg (by simp [he])]
      rw [e2, this]
      rfl
    · rw [findR_skip he] at h
      have e2 : dropR key (p :: r) = p :: dropR key r := by unfold dropR; rw [List.filter_cons_of_pos (by simp [he])]
      rw [e2, List.length_cons, List.length_cons, dropR_length ha.tail h]
theorem Fine.drop_length {t u : T} (h : Fine t) {key : ByteArray} (hg : findR key t.map = some u) : (t.drop key).map.length + 1 = t.map.length := by
  rw [h.pairs] at hg
  have hne : t.pairs ≠ [] := fun e => by rw [e] at hg; cases hg
  have e := h.five hne
  have e3 : t.kind = 5 := by rw [e]; rfl
  have e2 : t.drop key = .mk 5 false 0 ⟨#[]⟩ [] (dropR key t.map) := by unfold T.drop; rw [if_pos e3]
  rw [e2, h.pairs]
  show (dropR key t.pairs).length + 1 = _
  exact dropR_length h.asc hg
end Go.Proofs.YtlniokpekcoodaaGreatDoor

/-
  The reference's Drop, walked.
-/
set_option linter.unusedVariables false
set_option linter.unusedSimpArgs false
namespace Go.Proofs.YtlniokpekcoodaaGreatDoor
open Go.RowKit Go.Sort

end Go.Proofs.YtlniokpekcoodaaGreatDoor

/-
  The law's awake (mizzenlaw02).
-/
set_option linter.unusedVariables false
set_option linter.unusedSimpArgs false
namespace Go.Proofs.YtlniokpekcoodaaGreatDoor
open Go.RowKit

theorem Lies.head {w : World} {R : Nat → Prop} {k : Int} {b : Bool} {n : Int} {s : ByteArray} {l : List T} {m : List (ByteArray × T)} {cs : Array Value} (h : Lies w R (.mk k b n s l m) cs) :
    ∃ (la : Option Addr) (lc : Nat) (ma : Option Addr) (mc : Nat), cs = #[.int .i64 k, .bool b, .int .i64 n, .string s, .slice la l.length lc, .slice ma m.length mc] := by
  cases h; exact ⟨_, _, _, _, rfl⟩
def sA : ByteArray := ⟨#[97]⟩
def sB : ByteArray := ⟨#[98]⟩
def i3 : T := .mk 2 false 3 ⟨#[]⟩ [] []
def v3 : T := putL [sA, sB] T.nil i3
theorem two_texts (w : World) (x y : ByteArray) (hx : x.size ≤ 140737488355328) (hy : y.size ≤ 140737488355328) : SliceS (w.alloc (.cells #[.string x, .string y] 9)) [x, y] (some ⟨w.heap.size, 0, none⟩) 2 := by
  refine ⟨Nat.le_refl 2, by simp, by simp, fun _ => ⟨_, _, rfl⟩, by omega, fun i hi b off e => ?_, fun i hi => ?_⟩
  · simp only [Option.some.injEq, Addr.mk.injEq, and_true] at e
    obtain ⟨rfl, rfl⟩ := e
    have hi2 : i < 2 := hi
    rw [Nat.zero_add, World.cell?_alloc_new]
    rcases (by omega : i = 0 ∨ i = 1) with rfl | rfl <;> rfl
  · have hi2 : i < 2 := hi
    rcases (by omega : i = 0 ∨ i = 1) with rfl | rfl
    · exact hx
    · exact hy
end Go.Proofs.YtlniokpekcoodaaGreatDoor

/-
  A region that draws its order, all of whose operations lay a value; some wait for a guard that is known to hold.
-/
set_option linter.unusedVariables false
set_option linter.unusedSimpArgs false
namespace Go.Proofs.YtlniokpekcoodaaGreatDoor
open Go.RowKit

/-- The slots that the n operations write are D 0, D 1, ..; each waits for its guard. -/
def specsD (ops : Array Oper) (n : Nat) (D : Nat → Tmp) : Bool :=
  decide (ops.size = n) && (List.range n).all (fun i => ((ops[i]?).map fun o => decide (o.dst = some (D i)) && (match o.guard with | none => true | some (g, _) => o.after.any fun e => Region.binds .any e && decide (e.on = g))).getD false) &&
  (List.range n).all (fun i => (List.range n).all fun j => decide (D i = D j → i = j)) &&
  (List.range ops.size).all (fun i => ((ops[i]?).map fun o => o.after.all fun e => decide (e.on < i)).getD true)

end Go.Proofs.YtlniokpekcoodaaGreatDoor

/-
  PathWays: the law's contract.
-/
set_option linter.unusedVariables false
set_option linter.unusedSimpArgs false
namespace Go.Proofs.YtlniokpekcoodaaGreatDoor
open Go.RowKit Go.Sort

theorem SliceS.drop1 {w : World} {ks : List ByteArray} {b o : Nat} {cap : Nat} (h : SliceS w ks (some ⟨b, o, none⟩) cap) (hn : 1 ≤ ks.length) : SliceS w (ks.drop 1) (some ⟨b, o + 1, none⟩) (cap - 1) := by
  have e : (ks.drop 1).length = ks.length - 1 := by simp
  refine ⟨by have := h.le; omega, by have := h.big; omega, (fun h => by cases h), fun _ => ⟨_, _, rfl⟩, by have := h.max; omega, fun i hi b2 o2 ea => ?_, fun i hi => ?_⟩
  · simp only [Option.some.injEq, Addr.mk.injEq, and_true] at ea
    obtain ⟨rfl, rfl⟩ := ea
    have := h.cell (i + 1) (by omega) b o rfl
    rw [show o + 1 + i = o + (i + 1) by omega, this]
    simp [List.getElem_drop, Nat.add_comm]
  · have := h.sizes (i + 1) (by omega)
    simpa [List.getElem_drop, Nat.add_comm] using this

end Go.Proofs.YtlniokpekcoodaaGreatDoor
