/-
  Clones of pairs, and of a whole value.
-/
import Derived.Test.YtfadijofnaepnaaDoorClone
set_option linter.unusedVariables false
set_option linter.unusedSimpArgs false
namespace Go.Proofs.YtfadijofnaepnaaDoor
open Go.RowKit

theorem tail_row (v : Value) (ds : Array Value) : ((#[v] ++ ds).toList.tail).toArray = ds := by simp

/-- What has been built of a list of pairs: j clones, in the row g. -/
structure BuiltP (W w : World) (g : Nat) (ts : List (ByteArray × T)) (j cap : Nat) (D : List (Array Value)) : Prop where
  len : D.length = j
  le : j ≤ ts.length
  own : w.ownsRow W.heap.size 55 7 (.slice (some ⟨g, 0, none⟩) j cap) j (D.flatMap Array.toList)
  each : ∀ i (h : i < ts.length) (h' : i < D.length), ∃ ds, D[i] = #[Value.string (ts[i]).1] ++ ds ∧ Lies w (fun b => W.heap.size ≤ b ∧ b ≠ g) (ts[i]).2 ds

theorem BuiltP.step {W wr w2 w3 : World} {g j cap : Nat} {ts : List (ByteArray × T)} {D : List (Array Value)} {box blk : Obj} {ds : Array Value} (h : BuiltP W wr g ts j cap D) (hg : g < wr.heap.size) (hW : W.heap.size ≤ wr.heap.size) (hj : j < ts.length)
    (hb : Below (wr.alloc box).heap.size (wr.alloc box) w2) (hL : Lies w2 (fun b => (wr.alloc box).heap.size ≤ b) (ts[j]).2 ds)
    (own : w3.ownsRow W.heap.size 55 7 (.slice (some ⟨g, 0, none⟩) (j + 1) cap) (j + 1) (D.flatMap Array.toList ++ (#[Value.string (ts[j]).1] ++ ds).toList)) (hg3 : (w2.alloc blk).grownBy w3 (some g)) :
    BuiltP W w3 g ts (j + 1) cap (D ++ [#[Value.string (ts[j]).1] ++ ds]) := by
  have hs1 : wr.heap.size + 1 ≤ w2.heap.size := by have := hb.size; simpa using this
  have k1 : ∀ b, b < wr.heap.size → w2.heap[b]? = wr.heap[b]? := fun b hb' => (hb.block b (by simp; omega)).trans (Below.heap_alloc _ _ _ hb')
  have k2 : ∀ b, b < w2.heap.size → b ≠ g → w3.heap[b]? = w2.heap[b]? := fun b hb' hne => (hg3.block b (by simp; omega) (by simpa using hne)).trans (Below.heap_alloc _ _ _ hb')
  have hDl := h.len
  refine ⟨by simp [h.len], by omega, by simpa using own, fun i hi hi' => ?_⟩
  by_cases hij : i < j
  · have e : (D ++ [#[Value.string (ts[j]).1] ++ ds])[i] = D[i]'(by omega) := List.getElem_append_left (by omega)
    rw [e]
    obtain ⟨ds', e1, e2⟩ := h.each i hi (by omega)
    have := e2.keepB (w' := w3) (fun b hR hlt => (k2 b (by omega) hR.2).trans (k1 b hlt))
    exact ⟨ds', e1, this.weaken fun b hb' => hb'.1⟩
  · have e2 : i = j := by simp at hi'; omega
    subst e2
    have e : (D ++ [#[Value.string (ts[i]).1] ++ ds])[i]'hi' = #[Value.string (ts[i]).1] ++ ds := by rw [List.getElem_append_right (by omega)]; simp [h.len]
    rw [e]
    have := hL.keepB (w' := w3) (fun b hR hlt => k2 b hlt (by simp at hR; omega))
    exact ⟨ds, rfl, this.weaken fun b hb' => by simp at hb'; omega⟩

theorem BuiltP.done {W w : World} {g cap : Nat} {ts : List (ByteArray × T)} {D : List (Array Value)} (h : BuiltP W w g ts ts.length cap D) (hg : W.heap.size ≤ g) (hc : ts.length ≤ cap) (hx : ts.length * 104 ≤ 140737488355328) (hm : cap ≤ 9223372036854775807)
    (hk : ∀ i (h : i < ts.length), (ts[i]).1.size ≤ 140737488355328) :
    SliceP w (fun b => W.heap.size ≤ b) ts (some ⟨g, 0, none⟩) cap (fun i => ((D.getD i #[]).toList.tail).toArray) := by
  have hD : ∀ d ∈ D, d.size = 7 := fun d hd => by
    obtain ⟨i, hi, rfl⟩ := List.getElem_of_mem hd
    obtain ⟨ds, e1, e2⟩ := h.each i (by have := h.len; omega) hi
    rw [e1]
    simp [e2.size6]
  refine ⟨⟨hc, hx, by simp, fun _ => ⟨g, 0, rfl, hg⟩, hm⟩, fun i hi bl ol e k hk' => ?_, hk, fun i hi => ?_⟩
  · simp only [Option.some.injEq, Addr.mk.injEq, and_true] at e
    obtain ⟨rfl, rfl⟩ := e
    have hi' : i < D.length := by rw [h.len]; exact hi
    obtain ⟨ds, e1, e2⟩ := h.each i hi hi'
    have eD : #[Value.string (ts[i]).1] ++ ((D.getD i #[]).toList.tail).toArray = D[i] := by
      simp only [List.getD, List.getElem?_eq_getElem hi', Option.getD_some]
      rw [e1, tail_row]
    have hk7 : k < D[i].size := by rw [← eD]; exact hk'
    have h7 := hD D[i] (List.getElem_mem hi')
    have hlt : i * 7 + k < ts.length * 7 := by omega
    rw [Nat.zero_add, h.own.cellAt (i * 7 + k) hlt, flat_get D hD i hi' k hk7]
    exact congrArg some (get_congr eD.symm k _ _)
  · have hi' : i < D.length := by rw [h.len]; exact hi
    obtain ⟨ds, e1, e2⟩ := h.each i hi hi'
    have eD : ((D.getD i #[]).toList.tail).toArray = ds := by
      simp only [List.getD, List.getElem?_eq_getElem hi', Option.getD_some]
      rw [e1, tail_row]
    rw [eD]
    exact e2.weaken fun b hb => hb.1

end Go.Proofs.YtfadijofnaepnaaDoor
