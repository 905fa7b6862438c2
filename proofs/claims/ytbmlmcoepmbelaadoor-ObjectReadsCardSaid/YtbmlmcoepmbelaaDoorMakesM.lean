/-
  What package tree makes of plain things: nothing, a truth, a text, a list.
-/
import Derived.Test.YtbmlmcoepmbelaaDoorAwake
set_option linter.unusedVariables false
set_option linter.unusedSimpArgs false
namespace Go.Proofs.YtbmlmcoepmbelaaDoor
open Go.RowKit Go.Sort

theorem tStr_any (s : ByteArray) (w : World) : Calls Tryd.prog 48 #[.string s] w fun e w' => e = .returned (.agg #[.int .i64 3, .bool false, .int .i64 0, .string s, .slice none 0 0, .slice none 0 0]) ∧ Below w.heap.size w w' := by
  go_enter Tryd.func48, Tryd.ntmps48
  go_wp2_with fail
  obtain ⟨dd, hu, hdd⟩ := Tryd.structV
  refine ret_read w.heap.size #[.int .i64 3, .bool false, .int .i64 0, .string s, .slice none 0 0, .slice none 0 0] Tryd.results48 rfl rfl hdd hu Tryd.sizeV (fun i hi => by rw [World.cell?_alloc_new]; exact Array.getElem?_eq_getElem hi) ?_
  exact ⟨rfl, (Below.refl _ _).alloc (Nat.le_refl _) _⟩

theorem one_boxV {w w1 : World} {cs : Array Value} {ty : TypeId} (h : Below (w.alloc (.cells cs ty)).heap.size (w.alloc (.cells cs ty)) w1) :
    (∀ j, w1.cell? ⟨w.heap.size, j, none⟩ = cs[j]?) ∧ (∀ j, w1.frozen? ⟨w.heap.size, j, none⟩ = false) :=
  ⟨fun j => by rw [h.cell (p := ⟨w.heap.size, j, none⟩) (by simp), World.cell?_alloc_new], fun j => by rw [h.frozen (p := ⟨w.heap.size, j, none⟩) (by simp), World.frozen?_alloc_new]⟩

def T.listOf (ts : List T) : T := .mk 4 false 0 ⟨#[]⟩ ts []
def MadeL (w : World) (ts : List T) (e : Ending) (w' : World) : Prop := ∃ ds, e = .returned (.agg ds) ∧ Lies w' (fun b => w.heap.size ≤ b) (T.listOf ts) ds ∧ Below w.heap.size w w'
theorem wf4 : (Lit.int .i64 4).wf = true := by decide

end Go.Proofs.YtbmlmcoepmbelaaDoor

/-
  A box of six cells, in a world.
-/
set_option linter.unusedVariables false
set_option linter.unusedSimpArgs false
namespace Go.Proofs.YtbmlmcoepmbelaaDoor
open Go.RowKit

abbrev zeroV : Array Value := #[.int .i64 0, .bool false, .int .i64 0, .string ⟨#[]⟩, .slice none 0 0, .slice none 0 0]
/-- Six cells of a box. -/
def Box6 (w : World) (g : Nat) (cs : Array Value) : Prop := ∀ j, j < 6 → w.cell? ⟨g, j, none⟩ = cs[j]?
def Thaw (w : World) (g : Nat) : Prop := ∀ j, w.frozen? ⟨g, j, none⟩ = false
theorem Box6.later {w w' : World} {g : Nat} {cs : Array Value} {B : Nat} (h : Box6 w g cs) (hb : Below B w w') (hg : g < B) : Box6 w' g cs := fun j hj => (hb.cell (p := ⟨g, j, none⟩) hg).trans (h j hj)
theorem Thaw.later {w w' : World} {g : Nat} {B : Nat} (h : Thaw w g) (hb : Below B w w') (hg : g < B) : Thaw w' g := fun j => (hb.frozen (p := ⟨g, j, none⟩) hg).trans (h j)
theorem Box6.six {w : World} {g : Nat} {c0 c1 c2 c3 c4 c5 : Value} (h : Box6 w g #[c0, c1, c2, c3, c4, c5]) : w.cell? ⟨g, 0, none⟩ = some c0 ∧ w.cell? ⟨g, 1, none⟩ = some c1 ∧ w.cell? ⟨g, 2, none⟩ = some c2 ∧ w.cell? ⟨g, 3, none⟩ = some c3 ∧ w.cell? ⟨g, 4, none⟩ = some c4 ∧ w.cell? ⟨g, 5, none⟩ = some c5 :=
  ⟨h 0 (by omega), h 1 (by omega), h 2 (by omega), h 3 (by omega), h 4 (by omega), h 5 (by omega)⟩
theorem Thaw.six {w : World} {g : Nat} (h : Thaw w g) : w.frozen? ⟨g, 0, none⟩ = false ∧ w.frozen? ⟨g, 1, none⟩ = false ∧ w.frozen? ⟨g, 2, none⟩ = false ∧ w.frozen? ⟨g, 3, none⟩ = false ∧ w.frozen? ⟨g, 4, none⟩ = false ∧ w.frozen? ⟨g, 5, none⟩ = false :=
  ⟨h 0, h 1, h 2, h 3, h 4, h 5⟩
theorem Box6.new (w : World) (cs : Array Value) (t : TypeId) : Box6 (w.alloc (.cells cs t)) w.heap.size cs := fun j _ => by rw [World.cell?_alloc_new]
theorem Thaw.new (w : World) (cs : Array Value) (t : TypeId) : Thaw (w.alloc (.cells cs t)) w.heap.size := fun j => by rw [World.frozen?_alloc_new]
/-- .. stored anew. -/
theorem Box6.store {w : World} {g : Nat} {cs : Array Value} (h : Box6 w g cs) (hs : cs.size = 6) (v0 v1 v2 v3 v4 v5 : Value) : Box6 (setRow w g 0 [v0, v1, v2, v3, v4, v5]) g #[v0, v1, v2, v3, v4, v5] := fun j hj => by
  have := setRow_cell g [v0, v1, v2, v3, v4, v5] w 0 (fun i hi => ⟨cs[i]'(by rw [hs]; exact hi), by rw [Nat.zero_add, h i hi]; exact Array.getElem?_eq_getElem (by rw [hs]; exact hi)⟩) j hj
  rw [Nat.zero_add] at this
  rw [this]
  rcases (by omega : j = 0 ∨ j = 1 ∨ j = 2 ∨ j = 3 ∨ j = 4 ∨ j = 5) with rfl | rfl | rfl | rfl | rfl | rfl <;> rfl
theorem Thaw.store {w : World} {g g2 : Nat} (h : Thaw w g) (l : List Value) (o : Nat) : Thaw (setRow w g2 o l) g := fun j => by rw [setRow_frozen]; exact h j
theorem Box6.other {w : World} {g g2 : Nat} {cs : Array Value} (h : Box6 w g cs) (hg : g ≠ g2) (l : List Value) (o : Nat) : Box6 (setRow w g2 o l) g cs := fun j hj => by
  have e := h j hj
  unfold World.cell? at e ⊢
  rw [setRow_heap _ _ _ _ _ hg]
  exact e

theorem Box6.cells {w : World} {g : Nat} {cs : Array Value} (h : Box6 w g cs) (hs : cs.size = 6) : ∀ i, i < 6 → ∃ u, w.cell? ⟨g, i, none⟩ = some u := fun i hi => ⟨_, (h i hi).trans (Array.getElem?_eq_getElem (by rw [hs]; exact hi))⟩

end Go.Proofs.YtbmlmcoepmbelaaDoor
