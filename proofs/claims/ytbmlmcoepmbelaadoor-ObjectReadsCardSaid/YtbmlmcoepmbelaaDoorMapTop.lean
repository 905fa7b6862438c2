/-
  Package tree's Map, of few pairs.
-/
import Derived.Test.YtbmlmcoepmbelaaDoorMap
set_option linter.unusedVariables false
set_option linter.unusedSimpArgs false
namespace Go.Proofs.YtbmlmcoepmbelaaDoor
open Go.RowKit Go.Sort

theorem qlist_lies {w : World} {R : Nat → Prop} {ps : List (ByteArray × T)} {a : Option Addr} {cap : Nat} {cm : Nat → Array Value} (h : SliceP w R ps a cap cm) {q : Q} (hq : q ∈ qlist ps cm) : Lies w R q.2.1 q.2.2 ∧ q.1.size ≤ 140737488355328 := by
  obtain ⟨i, hi, rfl⟩ := List.getElem_of_mem hq
  have hi' : i < ps.length := by simpa [qlist] using hi
  rw [qlist_get]
  exact ⟨h.each i hi', h.keys i hi'⟩

theorem wf5 : (Lit.int .i64 5).wf = true := by decide
theorem wf0 : (Lit.int .i64 0).wf = true := by decide
theorem empty_size : (⟨#[]⟩ : ByteArray).size ≤ 140737488355328 := Nat.zero_le _
theorem empty_sliceV (w : World) (R : Nat → Prop) : SliceV w R [] none 0 (fun _ => #[]) := ⟨⟨by simp, by simp, fun _ => rfl, fun hp => absurd hp (by simp), by omega⟩, fun i hi => absurd hi (by simp), fun i hi => absurd hi (by simp)⟩

end Go.Proofs.YtbmlmcoepmbelaaDoor
