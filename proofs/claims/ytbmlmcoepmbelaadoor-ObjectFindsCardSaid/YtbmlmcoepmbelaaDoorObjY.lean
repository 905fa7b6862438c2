/-
  Sorted objects: pure, and what is built of them.
-/
import Derived.Test.YtbmlmcoepmbelaaDoorObjF
set_option linter.unusedVariables false
set_option linter.unusedSimpArgs false
namespace Go.Proofs.YtbmlmcoepmbelaaDoor
open Go.RowKit Go.Sort

theorem perm_lift {α β : Type} (f : α → β) {l m : List β} (h : l.Perm m) : ∀ os : List α, os.map f = m → ∃ os' : List α, os'.Perm os ∧ os'.map f = l := by
  induction h with
  | nil => intro os e; exact ⟨os, List.Perm.refl _, e⟩
  | cons x _ ih =>
    intro os e
    cases os with
    | nil => simp at e
    | cons o r =>
      simp only [List.map_cons, List.cons.injEq] at e
      obtain ⟨r', h1, h2⟩ := ih r e.2
      exact ⟨o :: r', h1.cons o, by rw [List.map_cons, e.1, h2]⟩
  | swap x y l =>
    intro os e
    match os, e with
    | o1 :: o2 :: r, e =>
      simp only [List.map_cons, List.cons.injEq] at e
      exact ⟨o2 :: o1 :: r, List.Perm.swap _ _ _, by rw [List.map_cons, List.map_cons, e.1, e.2.1, e.2.2]⟩
  | trans _ _ ih1 ih2 =>
    intro os e
    obtain ⟨o2, h1, h2⟩ := ih2 os e
    obtain ⟨o1, h3, h4⟩ := ih1 o2 h2
    exact ⟨o1, h3.trans h1, h4⟩

/-- Known by one ID. -/
def sameI (x y : OC) : Prop := x.k = y.k ∧ x.p = y.p ∧ x.n = y.n
theorem ordO_same {x y z : OC} (h : sameI x y) : ordO x z = ordO y z := by
  obtain ⟨h1, h2, h3⟩ := h
  unfold ordO
  rw [h1, h2, h3]

/-- Each one is below the next: all stand in one order. -/
theorem strict_of_adj (os : List Ob) (hle : ∀ i j (hi : i < os.length) (hj : j < os.length), i < j → ¬ ordO os[j].1 os[i].1 < 0) (hne : ∀ i (hi : i + 1 < os.length), ¬ sameI os[i].1 os[i + 1].1) :
    ∀ i j (hi : i < os.length) (hj : j < os.length), i < j → ordO os[i].1 os[j].1 < 0 := by
  have hstep : ∀ i (hi : i + 1 < os.length), ordO os[i].1 os[i + 1].1 < 0 := fun i hi => by
    have h1 := hle i (i + 1) (by omega) hi (by omega)
    have h2 := (ord_ordO os[i].1).anti os[i + 1].1
    by_cases h0 : ordO os[i].1 os[i + 1].1 = 0
    · exact absurd (ordO_zero h0) (hne i hi)
    · omega
  intro i j hi hj hij
  obtain ⟨d, rfl⟩ : ∃ d, j = i + 1 + d := ⟨j - (i + 1), by omega⟩
  induction d with
  | zero => exact hstep i hj
  | succ d ih =>
    have h1 := ih (by omega) (by omega)
    have h2 : ordO os[i + 1 + d].1 os[i + 1 + (d + 1)].1 < 0 := hstep (i + 1 + d) hj
    exact (ord_ordO os[i].1).less _ _ h1 (by omega)

/-- The same objects: IDs and bodies. -/
def SameOb (x y : Ob) : Prop := sameI x.1 y.1 ∧ x.2 = y.2

/-- j clones of objects, in the row g. -/
structure BuiltO (W w : World) (g : Nat) (ts : List Ob) (j cap : Nat) (ss : List Ob) : Prop where
  len : ss.length = j
  le : j ≤ ts.length
  own : w.ownsRow W.heap.size 31 9 (.slice (some ⟨g, 0, none⟩) j cap) j (flatO ss)
  same : ∀ i (h : i < ts.length) (h' : i < ss.length), SameOb ss[i] ts[i]
  each : ∀ i (h' : i < ss.length), Lies w (fun b => W.heap.size ≤ b ∧ b ≠ g) ss[i].2 ss[i].1.body

theorem flatO_snoc (ss : List Ob) (o : Ob) : flatO (ss ++ [o]) = flatO ss ++ encO o.1 := by
  unfold flatO rowsO
  simp
theorem BuiltO.step {W wr w2 w3 : World} {g j cap : Nat} {ts ss : List Ob} {box blk : Obj} {o : Ob} (h : BuiltO W wr g ts j cap ss) (hg : g < wr.heap.size) (hW : W.heap.size ≤ wr.heap.size) (hj : j < ts.length)
    (hb : Below (wr.alloc box).heap.size (wr.alloc box) w2) (hL : Lies w2 (fun b => (wr.alloc box).heap.size ≤ b) o.2 o.1.body) (hS : SameOb o ts[j])
    (own : w3.ownsRow W.heap.size 31 9 (.slice (some ⟨g, 0, none⟩) (j + 1) cap) (j + 1) (flatO ss ++ encO o.1)) (hg3 : (w2.alloc blk).grownBy w3 (some g)) :
    BuiltO W w3 g ts (j + 1) cap (ss ++ [o]) := by
  have hs1 : wr.heap.size + 1 ≤ w2.heap.size := by have := hb.size; simpa using this
  have k1 : ∀ b, b < wr.heap.size → w2.heap[b]? = wr.heap[b]? := fun b hb' => (hb.block b (by simp; omega)).trans (Below.heap_alloc _ _ _ hb')
  have k2 : ∀ b, b < w2.heap.size → b ≠ g → w3.heap[b]? = w2.heap[b]? := fun b hb' hne => (hg3.block b (by simp; omega) (by simpa using hne)).trans (Below.heap_alloc _ _ _ hb')
  have hDl := h.len
  refine ⟨by simp [h.len], by omega, by rw [flatO_snoc]; exact own, fun i hi hi' => ?_, fun i hi' => ?_⟩
  · by_cases hij : i < j
    · have e : (ss ++ [o])[i] = ss[i]'(by omega) := List.getElem_append_left (by omega)
      rw [e]
      exact h.same i hi (by omega)
    · have e2 : i = j := by simp at hi'; omega
      subst e2
      have e : (ss ++ [o])[i]'hi' = o := by rw [List.getElem_append_right (by omega)]; simp [h.len]
      rw [e]
      exact hS
  · by_cases hij : i < j
    · have e : (ss ++ [o])[i] = ss[i]'(by omega) := List.getElem_append_left (by omega)
      rw [e]
      have := (h.each i (by omega)).keepB (w' := w3) (fun b hR hlt => (k2 b (by omega) hR.2).trans (k1 b hlt))
      exact this.weaken fun b hb' => hb'.1
    · have e2 : i = j := by simp at hi'; omega
      subst e2
      have e : (ss ++ [o])[i]'hi' = o := by rw [List.getElem_append_right (by omega)]; simp [h.len]
      rw [e]
      have := hL.keepB (w' := w3) (fun b hR hlt => k2 b hlt (by simp at hR; omega))
      exact this.weaken fun b hb' => by simp at hb'; omega
theorem BuiltO.done {W w : World} {g cap : Nat} {ts ss : List Ob} (h : BuiltO W w g ts ts.length cap ss) (hg : W.heap.size ≤ g) (hc : ts.length ≤ cap) (hx : ts.length * 136 ≤ 140737488355328) (hm : cap ≤ 9223372036854775807)
    (hk : ∀ i (h : i < ts.length), ts[i].1.k.size ≤ 140737488355328 ∧ ts[i].1.p.size ≤ 140737488355328 ∧ ts[i].1.n.size ≤ 140737488355328) :
    SliceO w (fun b => W.heap.size ≤ b) ss (some ⟨g, 0, none⟩) cap := by
  have hl := h.len
  refine ⟨⟨by omega, by omega, by simp, fun _ => ⟨g, 0, rfl, hg⟩, hm⟩, fun i hi bl ol e k hk' => ?_, fun i hi => ?_, fun i hi => (h.each i hi).weaken fun b hb => hb.1⟩
  · simp only [Option.some.injEq, Addr.mk.injEq, and_true] at e
    obtain ⟨rfl, rfl⟩ := e
    have hk9 : k < 9 := hk'
    have hi2 : i < (rowsO ss).length := by simpa [rowsO] using hi
    have er := rowsO_get ss i hi2
    rw [Nat.zero_add, h.own.cellAt (i * 9 + k) (by omega)]
    unfold flatO
    rw [flat_get (rowsO ss) (rowsO_nine ss) i hi2 k (by rw [er]; exact hk')]
    exact congrArg some (get_congr er k _ _)
  · have hs := (h.same i (by omega) hi).1
    obtain ⟨e1, e2, e3⟩ := hs
    rw [e1, e2, e3]
    exact hk i (by omega)

end Go.Proofs.YtbmlmcoepmbelaaDoor
