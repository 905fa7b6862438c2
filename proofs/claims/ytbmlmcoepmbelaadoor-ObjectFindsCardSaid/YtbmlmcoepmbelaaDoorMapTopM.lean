/-
  Package tree's Map, of few pairs.
-/
import Derived.Test.YtbmlmcoepmbelaaDoorMap
set_option linter.unusedVariables false
set_option linter.unusedSimpArgs false
namespace Go.Proofs.YtbmlmcoepmbelaaDoor
open Go.RowKit Go.Sort

theorem qlist_lies {w : World} {R : Nat → Prop} {ps : List (ByteArray × T)} {a : Option Addr} {cap : Nat} {cm : Nat → Array Value} (h : SliceP w R ps a cap cm) {q : Q} (hq : q ∈ qlist ps cm) : Lies w R q.2.1 q.2.2 ∧ q.1.size ≤ 140737488355328 := by
  obtain ⟨i, hi, rfl⟩ := List.getElem_of_mem hq
  have hi' : i < ps.length := by simpa [qlist] using hi
  rw [qlist_get]
  exact ⟨h.each i hi', h.keys i hi'⟩

theorem wf5 : (Lit.int .i64 5).wf = true := by decide
theorem wf0 : (Lit.int .i64 0).wf = true := by decide
theorem empty_size : (⟨#[]⟩ : ByteArray).size ≤ 140737488355328 := Nat.zero_le _
theorem empty_sliceV (w : World) (R : Nat → Prop) : SliceV w R [] none 0 (fun _ => #[]) := ⟨⟨by simp, by simp, fun _ => rfl, fun hp => absurd hp (by simp), by omega⟩, fun i hi => absurd hi (by simp), fun i hi => absurd hi (by simp)⟩

end Go.Proofs.YtbmlmcoepmbelaaDoor

/-
  That the statements look at the program at all: their closed run.
-/
set_option linter.unusedVariables false
set_option linter.unusedSimpArgs false
namespace Go.Proofs.YtbmlmcoepmbelaaDoor
open Go.RowKit Go.Sort

def T.int (n : Int) : T := .mk 2 false n ⟨#[]⟩ [] []

/-- A result that lies in a variable as it is. -/
theorem ret_read {P : Program} {fn : Func} {R : Ending → World → Prop} {a : Act} {w : World} {p : Tmp} {ty : TypeId} {d : TypeDesc} (g : Nat) (cs : Array Value) (h : fn.results = #[.cell p ty]) (hdef : a.defers = []) (hp : a.tmps.getD p undef = .pointer (some ⟨g, 0, none⟩))
    (hd : (match d with | .struct _ | .array _ _ => true | _ => false) = true) (hu : P.underlying ty = some d) (hi : (P.info? ty).map (·.size) = some cs.size) (hc : ∀ i (h : i < cs.size), w.cell? ⟨g, i, none⟩ = some cs[i])
    (hR : R (.returned (.agg cs)) w) : bodyPost P fn R .ret a w := bodyPost_ret (results_cells h _ _ g cs d hd hu hp hc hi) hdef hR

theorem empty_sliceP (w : World) (R : Nat → Prop) : SliceP w R [] none 0 (fun _ => #[]) := ⟨⟨by simp, by simp, fun _ => rfl, fun hp => absurd hp (by simp), by omega⟩, fun i hi => absurd hi (by simp), fun i hi => absurd hi (by simp), fun i hi => absurd hi (by simp)⟩
theorem wf2 : (Lit.int .i64 2).wf = true := by decide
theorem int_lies (w : World) (R : Nat → Prop) (n : Int) (hn : (Lit.int .i64 n).wf = true) : Lies w R (T.int n) #[.int .i64 2, .bool false, .int .i64 n, .string ⟨#[]⟩, .slice none 0 0, .slice none 0 0] :=
  Lies.of_slices wf2 hn empty_size (empty_sliceV w R) (empty_sliceP w R)

def kA : ByteArray := ⟨#[97]⟩
def kB : ByteArray := ⟨#[98]⟩
def three : List (ByteArray × T) := [(kB, T.int 1), (kA, T.int 2), (kB, T.int 3)]
def intCells (n : Int) : Array Value := #[.int .i64 2, .bool false, .int .i64 n, .string ⟨#[]⟩, .slice none 0 0, .slice none 0 0]
def threeCells : Array Value := #[.string ⟨#[98]⟩, .int .i64 2, .bool false, .int .i64 1, .string ⟨#[]⟩, .slice none 0 0, .slice none 0 0, .string ⟨#[97]⟩, .int .i64 2, .bool false, .int .i64 2, .string ⟨#[]⟩, .slice none 0 0, .slice none 0 0, .string ⟨#[98]⟩, .int .i64 2, .bool false, .int .i64 3, .string ⟨#[]⟩, .slice none 0 0, .slice none 0 0]

theorem three_cell (w : World) (t : TypeId) (j : Nat) (hj : j < 21) : (w.alloc (.cells threeCells t)).cell? ⟨w.heap.size, j, none⟩ = some (threeCells[j]'hj) := by
  rw [World.cell?_alloc_new]; exact Array.getElem?_eq_getElem hj

theorem three_slice (w : World) : SliceP (w.alloc (.cells threeCells 54)) (fun _ => True) three (some ⟨w.heap.size, 0, none⟩) 3 (fun i => intCells (i + 1)) := by
  refine ⟨⟨by decide, by simp [three], by simp, fun _ => ⟨_, _, rfl, trivial⟩, by omega⟩, fun i hi bl ol e => ?_, fun i hi => ?_, fun i hi => ?_⟩
  · simp only [Option.some.injEq, Addr.mk.injEq, and_true] at e
    obtain ⟨rfl, rfl⟩ := e
    have hi3 : i < 3 := hi
    intro j hj
    have hj7 : j < 7 := by simpa [intCells] using hj
    rw [Nat.zero_add, three_cell w _ (i * 7 + j) (by omega)]
    rcases (by omega : i = 0 ∨ i = 1 ∨ i = 2) with rfl | rfl | rfl <;> rcases (by omega : j = 0 ∨ j = 1 ∨ j = 2 ∨ j = 3 ∨ j = 4 ∨ j = 5 ∨ j = 6) with rfl | rfl | rfl | rfl | rfl | rfl | rfl <;> rfl
  · have hi3 : i < 3 := hi
    rcases (by omega : i = 0 ∨ i = 1 ∨ i = 2) with rfl | rfl | rfl <;> exact (by decide : (1 : Nat) ≤ 140737488355328)
  · have hi3 : i < 3 := hi
    rcases (by omega : i = 0 ∨ i = 1 ∨ i = 2) with rfl | rfl | rfl
    · exact int_lies _ _ 1 (by decide)
    · exact int_lies _ _ 2 (by decide)
    · exact int_lies _ _ 3 (by decide)

theorem three_kept : keepTo (·.1) (insN (·.1) three.length three) three.length = [(kA, T.int 2), (kB, T.int 3)] := by kernel_rfl
theorem three_map : T.mkMap three = .mk 5 false 0 ⟨#[]⟩ [] [(kA, T.int 2), (kB, T.int 3)] := by unfold T.mkMap; rw [three_kept]
theorem get_a : (T.mk 5 false 0 ⟨#[]⟩ [] [(kA, T.int 2), (kB, T.int 3)]).get kA = some (T.int 2) := by kernel_rfl
theorem get_b : (T.mk 5 false 0 ⟨#[]⟩ [] [(kA, T.int 2), (kB, T.int 3)]).get kB = some (T.int 3) := by kernel_rfl

end Go.Proofs.YtbmlmcoepmbelaaDoor
