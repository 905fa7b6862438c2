/-
  That the statements look at the program at all: their closed run.
-/
import Derived.Test.YthjdeckdklhphaaGreatDoorMapTop
import Derived.Laws.Rows
import Derived.Deep.DeepCutAuto
set_option linter.unusedVariables false
set_option linter.unusedSimpArgs false
namespace Go.Proofs.YthjdeckdklhphaaGreatDoor
open Go.RowKit Go.Sort

def T.int (n : Int) : T := .mk 2 false n ⟨#[]⟩ [] []

/-- A result that lies in a variable as it is. -/
theorem ret_read {P : Program} {fn : Func} {R : Ending → World → Prop} {a : Act} {w : World} {p : Tmp} {ty : TypeId} {d : TypeDesc} (g : Nat) (cs : Array Value) (h : fn.results = #[.cell p ty]) (hdef : a.defers = []) (hp : a.tmps.getD p undef = .pointer (some ⟨g, 0, none⟩))
    (hd : (match d with | .struct _ | .array _ _ => true | _ => false) = true) (hu : P.underlying ty = some d) (hi : (P.info? ty).map (·.size) = some cs.size) (hc : ∀ i (h : i < cs.size), w.cell? ⟨g, i, none⟩ = some cs[i])
    (hR : R (.returned (.agg cs)) w) : bodyPost P fn R .ret a w := bodyPost_ret (results_cells h _ _ g cs d hd hu hp hc hi) hdef hR

theorem tInt_any (n : Int) (w : World) : Calls Tryz.prog 7 #[.int .i64 n] w fun e w' => e = .returned (.agg #[.int .i64 2, .bool false, .int .i64 n, .string ⟨#[]⟩, .slice none 0 0, .slice none 0 0]) ∧ Below w.heap.size w w' := by
  go_enter Tryz.func7, Tryz.ntmps7
  go_wp2_with fail
  obtain ⟨dd, hu, hdd⟩ := Tryz.structV
  refine ret_read w.heap.size #[.int .i64 2, .bool false, .int .i64 n, .string ⟨#[]⟩, .slice none 0 0, .slice none 0 0] Tryz.results7 rfl rfl hdd hu Tryz.sizeV (fun i hi => by rw [World.cell?_alloc_new]; exact Array.getElem?_eq_getElem hi) ?_
  exact ⟨rfl, (Below.refl _ _).alloc (Nat.le_refl _) _⟩

theorem empty_sliceP (w : World) (R : Nat → Prop) : SliceP w R [] none 0 (fun _ => #[]) := ⟨⟨by simp, by simp, fun _ => rfl, fun hp => absurd hp (by simp), by omega⟩, fun i hi => absurd hi (by simp), fun i hi => absurd hi (by simp), fun i hi => absurd hi (by simp)⟩
theorem wf2 : (Lit.int .i64 2).wf = true := by decide
theorem int_lies (w : World) (R : Nat → Prop) (n : Int) (hn : (Lit.int .i64 n).wf = true) : Lies w R (T.int n) #[.int .i64 2, .bool false, .int .i64 n, .string ⟨#[]⟩, .slice none 0 0, .slice none 0 0] :=
  Lies.of_slices wf2 hn empty_size (empty_sliceV w R) (empty_sliceP w R)

def kA : ByteArray := ⟨#[97]⟩
def kB : ByteArray := ⟨#[98]⟩
def three : List (ByteArray × T) := [(kB, T.int 1), (kA, T.int 2), (kB, T.int 3)]
def intCells (n : Int) : Array Value := #[.int .i64 2, .bool false, .int .i64 n, .string ⟨#[]⟩, .slice none 0 0, .slice none 0 0]
def threeCells : Array Value := #[.string ⟨#[98]⟩, .int .i64 2, .bool false, .int .i64 1, .string ⟨#[]⟩, .slice none 0 0, .slice none 0 0, .string ⟨#[97]⟩, .int .i64 2, .bool false, .int .i64 2, .string ⟨#[]⟩, .slice none 0 0, .slice none 0 0, .string ⟨#[98]⟩, .int .i64 2, .bool false, .int .i64 3, .string ⟨#[]⟩, .slice none 0 0, .slice none 0 0]

theorem three_cell (w : World) (t : TypeId) (j : Nat) (hj : j < 21) : (w.alloc (.cells threeCells t)).cell? ⟨w.heap.size, j, none⟩ = some (threeCells[j]'hj) := by
  rw [World.cell?_alloc_new]; exact Array.getElem?_eq_getElem hj

theorem three_slice (w : World) : SliceP (w.alloc (.cells threeCells 48)) (fun _ => True) three (some ⟨w.heap.size, 0, none⟩) 3 (fun i => intCells (i + 1)) := by
  refine ⟨⟨by decide, by simp [three], by simp, fun _ => ⟨_, _, rfl, trivial⟩, by omega⟩, fun i hi bl ol e => ?_, fun i hi => ?_, fun i hi => ?_⟩
  · simp only [Option.some.injEq, Addr.mk.injEq, and_true] at e
    obtain ⟨rfl, rfl⟩ := e
    have hi3 : i < 3 := hi
    intro j hj
    have hj7 : j < 7 := by simpa [intCells] using hj
    rw [Nat.zero_add, three_cell w _ (i * 7 + j) (by omega)]
    rcases (by omega : i = 0 ∨ i = 1 ∨ i = 2) with rfl | rfl | rfl <;> rcases (by omega : j = 0 ∨ j = 1 ∨ j = 2 ∨ j = 3 ∨ j = 4 ∨ j = 5 ∨ j = 6) with rfl | rfl | rfl | rfl | rfl | rfl | rfl <;> rfl
  · have hi3 : i < 3 := hi
    rcases (by omega : i = 0 ∨ i = 1 ∨ i = 2) with rfl | rfl | rfl <;> exact (by decide : (1 : Nat) ≤ 140737488355328)
  · have hi3 : i < 3 := hi
    rcases (by omega : i = 0 ∨ i = 1 ∨ i = 2) with rfl | rfl | rfl
    · exact int_lies _ _ 1 (by decide)
    · exact int_lies _ _ 2 (by decide)
    · exact int_lies _ _ 3 (by decide)

theorem three_kept : keepTo (·.1) (insN (·.1) three.length three) three.length = [(kA, T.int 2), (kB, T.int 3)] := by kernel_rfl
theorem three_map : T.mkMap three = .mk 5 false 0 ⟨#[]⟩ [] [(kA, T.int 2), (kB, T.int 3)] := by unfold T.mkMap; rw [three_kept]
theorem get_a : (T.mk 5 false 0 ⟨#[]⟩ [] [(kA, T.int 2), (kB, T.int 3)]).get kA = some (T.int 2) := by kernel_rfl
theorem get_b : (T.mk 5 false 0 ⟨#[]⟩ [] [(kA, T.int 2), (kB, T.int 3)]).get kB = some (T.int 3) := by kernel_rfl

end Go.Proofs.YthjdeckdklhphaaGreatDoor

/-
  What package tree makes of plain things: nothing, a truth, a text, a list.
-/
set_option linter.unusedVariables false
set_option linter.unusedSimpArgs false
namespace Go.Proofs.YthjdeckdklhphaaGreatDoor
open Go.RowKit Go.Sort

theorem tNull_any (w : World) : Calls Tryz.prog 13 #[] w fun e w' => e = .returned (.agg #[.int .i64 0, .bool false, .int .i64 0, .string ⟨#[]⟩, .slice none 0 0, .slice none 0 0]) ∧ Below w.heap.size w w' := by
  go_enter Tryz.func13, Tryz.ntmps13
  go_wp2_with fail
  obtain ⟨dd, hu, hdd⟩ := Tryz.structV
  refine ret_read w.heap.size #[.int .i64 0, .bool false, .int .i64 0, .string ⟨#[]⟩, .slice none 0 0, .slice none 0 0] Tryz.results13 rfl rfl hdd hu Tryz.sizeV (fun i hi => by rw [World.cell?_alloc_new]; exact Array.getElem?_eq_getElem hi) ?_
  exact ⟨rfl, (Below.refl _ _).alloc (Nat.le_refl _) _⟩

theorem tBool_any (b : Bool) (w : World) : Calls Tryz.prog 30 #[.bool b] w fun e w' => e = .returned (.agg #[.int .i64 1, .bool b, .int .i64 0, .string ⟨#[]⟩, .slice none 0 0, .slice none 0 0]) ∧ Below w.heap.size w w' := by
  go_enter Tryz.func30, Tryz.ntmps30
  go_wp2_with fail
  obtain ⟨dd, hu, hdd⟩ := Tryz.structV
  refine ret_read w.heap.size #[.int .i64 1, .bool b, .int .i64 0, .string ⟨#[]⟩, .slice none 0 0, .slice none 0 0] Tryz.results30 rfl rfl hdd hu Tryz.sizeV (fun i hi => by rw [World.cell?_alloc_new]; exact Array.getElem?_eq_getElem hi) ?_
  exact ⟨rfl, (Below.refl _ _).alloc (Nat.le_refl _) _⟩

theorem tStr_any (s : ByteArray) (w : World) : Calls Tryz.prog 10 #[.string s] w fun e w' => e = .returned (.agg #[.int .i64 3, .bool false, .int .i64 0, .string s, .slice none 0 0, .slice none 0 0]) ∧ Below w.heap.size w w' := by
  go_enter Tryz.func10, Tryz.ntmps10
  go_wp2_with fail
  obtain ⟨dd, hu, hdd⟩ := Tryz.structV
  refine ret_read w.heap.size #[.int .i64 3, .bool false, .int .i64 0, .string s, .slice none 0 0, .slice none 0 0] Tryz.results10 rfl rfl hdd hu Tryz.sizeV (fun i hi => by rw [World.cell?_alloc_new]; exact Array.getElem?_eq_getElem hi) ?_
  exact ⟨rfl, (Below.refl _ _).alloc (Nat.le_refl _) _⟩

theorem one_boxV {w w1 : World} {cs : Array Value} {ty : TypeId} (h : Below (w.alloc (.cells cs ty)).heap.size (w.alloc (.cells cs ty)) w1) :
    (∀ j, w1.cell? ⟨w.heap.size, j, none⟩ = cs[j]?) ∧ (∀ j, w1.frozen? ⟨w.heap.size, j, none⟩ = false) :=
  ⟨fun j => by rw [h.cell (p := ⟨w.heap.size, j, none⟩) (by simp), World.cell?_alloc_new], fun j => by rw [h.frozen (p := ⟨w.heap.size, j, none⟩) (by simp), World.frozen?_alloc_new]⟩

def T.listOf (ts : List T) : T := .mk 4 false 0 ⟨#[]⟩ ts []
def MadeL (w : World) (ts : List T) (e : Ending) (w' : World) : Prop := ∃ ds, e = .returned (.agg ds) ∧ Lies w' (fun b => w.heap.size ≤ b) (T.listOf ts) ds ∧ Below w.heap.size w w'
theorem wf4 : (Lit.int .i64 4).wf = true := by decide

set_option maxHeartbeats 800000 in
theorem tList_any {w0 : World} {R : Nat → Prop} {ts : List T} {a : Option Addr} {cap : Nat} {cl : Nat → Array Value} (h : SliceV w0 R ts a cap cl) (w : World) (hw : Below w0.heap.size w0 w) :
    Calls Tryz.prog 14 #[.slice a ts.length cap] w (MadeL w ts) := by
  have CV := Lib.hid (fun w hw => cloneValues_any h (fun i p w hw => tClone_any (h.each i p) w hw) w hw)
  go_enter Tryz.func14, Tryz.ntmps14
  go_wp2_with fail
  refine (CV.out _ (bbox hw _ hw.size)).mono ?_
  rintro e w1 ⟨a1, c1, dl1, rfl, hS1, hb1⟩
  obtain ⟨y1, y2⟩ := one_boxV hb1
  have hs1 := hb1.size
  simp only [World.size_alloc] at hs1
  have HS := Lib.hid hS1
  have HB := Lib.hid hb1
  have Y1 := Lib.hid y1
  clear hS1 hb1
  go_wp2_with fail
  obtain ⟨dd, hu, hdd⟩ := Tryz.structV
  refine ret_cells w1 w.heap.size [.int .i64 4, .bool false, .int .i64 0, .string ⟨#[]⟩, .slice a1 ts.length c1, .slice none 0 0] rfl Tryz.results14 rfl rfl hdd hu Tryz.sizeV (fun i hi => ⟨_, (Y1.out i).trans (Array.getElem?_eq_getElem (show i < 6 from hi))⟩) ?_
  refine ⟨_, rfl, Lies.of_slices wf4 wf0 empty_size ((HS.out.keepB (fun x hx _ => ?_)).weaken (fun x hx => ?_)) (empty_sliceP _ _), ?_⟩
  · simp only [World.size_alloc] at hx
    exact setRow_heap _ _ _ _ _ (by omega)
  · simp only [World.size_alloc] at hx
    omega
  · exact setRow_below _ (Nat.le_refl _) _ _ _ (bunbox HB.out (Nat.le_refl _) (by simp))

end Go.Proofs.YthjdeckdklhphaaGreatDoor

/-
  A box of six cells, in a world.
-/
set_option linter.unusedVariables false
set_option linter.unusedSimpArgs false
namespace Go.Proofs.YthjdeckdklhphaaGreatDoor
open Go.RowKit

abbrev zeroV : Array Value := #[.int .i64 0, .bool false, .int .i64 0, .string ⟨#[]⟩, .slice none 0 0, .slice none 0 0]
/-- Six cells of a box. -/
def Box6 (w : World) (g : Nat) (cs : Array Value) : Prop := ∀ j, j < 6 → w.cell? ⟨g, j, none⟩ = cs[j]?
def Thaw (w : World) (g : Nat) : Prop := ∀ j, w.frozen? ⟨g, j, none⟩ = false
theorem Box6.later {w w' : World} {g : Nat} {cs : Array Value} {B : Nat} (h : Box6 w g cs) (hb : Below B w w') (hg : g < B) : Box6 w' g cs := fun j hj => (hb.cell (p := ⟨g, j, none⟩) hg).trans (h j hj)
theorem Thaw.later {w w' : World} {g : Nat} {B : Nat} (h : Thaw w g) (hb : Below B w w') (hg : g < B) : Thaw w' g := fun j => (hb.frozen (p := ⟨g, j, none⟩) hg).trans (h j)
theorem Box6.six {w : World} {g : Nat} {c0 c1 c2 c3 c4 c5 : Value} (h : Box6 w g #[c0, c1, c2, c3, c4, c5]) : w.cell? ⟨g, 0, none⟩ = some c0 ∧ w.cell? ⟨g, 1, none⟩ = some c1 ∧ w.cell? ⟨g, 2, none⟩ = some c2 ∧ w.cell? ⟨g, 3, none⟩ = some c3 ∧ w.cell? ⟨g, 4, none⟩ = some c4 ∧ w.cell? ⟨g, 5, none⟩ = some c5 :=
  ⟨h 0 (by omega), h 1 (by omega), h 2 (by omega), h 3 (by omega), h 4 (by omega), h 5 (by omega)⟩
theorem Thaw.six {w : World} {g : Nat} (h : Thaw w g) : w.frozen? ⟨g, 0, none⟩ = false ∧ w.frozen? ⟨g, 1, none⟩ = false ∧ w.frozen? ⟨g, 2, none⟩ = false ∧ w.frozen? ⟨g, 3, none⟩ = false ∧ w.frozen? ⟨g, 4, none⟩ = false ∧ w.frozen? ⟨g, 5, none⟩ = false :=
  ⟨h 0, h 1, h 2, h 3, h 4, h 5⟩
theorem Box6.new (w : World) (cs : Array Value) (t : TypeId) : Box6 (w.alloc (.cells cs t)) w.heap.size cs := fun j _ => by rw [World.cell?_alloc_new]
theorem Thaw.new (w : World) (cs : Array Value) (t : TypeId) : Thaw (w.alloc (.cells cs t)) w.heap.size := fun j => by rw [World.frozen?_alloc_new]
/-- .. stored anew. -/
theorem Box6.store {w : World} {g : Nat} {cs : Array Value} (h : Box6 w g cs) (hs : cs.size = 6) (v0 v1 v2 v3 v4 v5 : Value) : Box6 (setRow w g 0 [v0, v1, v2, v3, v4, v5]) g #[v0, v1, v2, v3, v4, v5] := fun j hj => by
  have := setRow_cell g [v0, v1, v2, v3, v4, v5] w 0 (fun i hi => ⟨cs[i]'(by rw [hs]; exact hi), by rw [Nat.zero_add, h i hi]; exact Array.getElem?_eq_getElem (by rw [hs]; exact hi)⟩) j hj
  rw [Nat.zero_add] at this
  rw [this]
  rcases (by omega : j = 0 ∨ j = 1 ∨ j = 2 ∨ j = 3 ∨ j = 4 ∨ j = 5) with rfl | rfl | rfl | rfl | rfl | rfl <;> rfl
theorem Thaw.store {w : World} {g g2 : Nat} (h : Thaw w g) (l : List Value) (o : Nat) : Thaw (setRow w g2 o l) g := fun j => by rw [setRow_frozen]; exact h j
theorem Box6.other {w : World} {g g2 : Nat} {cs : Array Value} (h : Box6 w g cs) (hg : g ≠ g2) (l : List Value) (o : Nat) : Box6 (setRow w g2 o l) g cs := fun j hj => by
  have e := h j hj
  unfold World.cell? at e ⊢
  rw [setRow_heap _ _ _ _ _ hg]
  exact e

theorem Box6.cells {w : World} {g : Nat} {cs : Array Value} (h : Box6 w g cs) (hs : cs.size = 6) : ∀ i, i < 6 → ∃ u, w.cell? ⟨g, i, none⟩ = some u := fun i hi => ⟨_, (h i hi).trans (Array.getElem?_eq_getElem (by rw [hs]; exact hi))⟩

end Go.Proofs.YthjdeckdklhphaaGreatDoor

/-
  Package funcs' find.
-/
set_option linter.unusedVariables false
set_option linter.unusedSimpArgs false
namespace Go.Proofs.YthjdeckdklhphaaGreatDoor
open Go.RowKit

/-- All functions: a name, and how many arguments, at least and at most. -/
def fnTab : List (ByteArray × Int × Int) := [(⟨#[97, 100, 100]⟩, 2, 2), (⟨#[97, 110, 100]⟩, 1, 9223372036854775807), (⟨#[100, 101, 102, 97, 117, 108, 116]⟩, 2, 2), (⟨#[100, 105, 99, 116]⟩, 0, 9223372036854775807), (⟨#[101, 113]⟩, 2, 2), (⟨#[103, 101, 116]⟩, 2, 2), (⟨#[104, 97, 115]⟩, 2, 2), (⟨#[105, 110, 100, 101, 110, 116]⟩, 2, 2), (⟨#[105, 110, 116]⟩, 1, 1), (⟨#[106, 111, 105, 110]⟩, 2, 2), (⟨#[107, 101, 121, 115]⟩, 1, 1), (⟨#[108, 101, 110]⟩, 1, 1), (⟨#[108, 105, 115, 116]⟩, 0, 9223372036854775807), (⟨#[108, 111, 119, 101, 114]⟩, 1, 1), (⟨#[108, 116]⟩, 2, 2), (⟨#[109, 117, 108]⟩, 2, 2), (⟨#[110, 101]⟩, 2, 2), (⟨#[110, 105, 110, 100, 101, 110, 116]⟩, 2, 2), (⟨#[110, 111, 116]⟩, 1, 1), (⟨#[111, 114]⟩, 1, 9223372036854775807), (⟨#[112, 114, 105, 110, 116]⟩, 0, 9223372036854775807), (⟨#[113, 117, 111, 116, 101]⟩, 1, 1), (⟨#[114, 101, 113, 117, 105, 114, 101, 100]⟩, 2, 2), (⟨#[115, 117, 98]⟩, 2, 2), (⟨#[116, 101, 114, 110, 97, 114, 121]⟩, 3, 3), (⟨#[116, 111, 83, 116, 114, 105, 110, 103]⟩, 1, 1), (⟨#[116, 111, 89, 97, 109, 108]⟩, 1, 1), (⟨#[116, 114, 105, 109]⟩, 1, 1), (⟨#[117, 112, 112, 101, 114]⟩, 1, 1)]
def fnAt (j : Nat) : ByteArray × Int × Int := fnTab.getD j (⟨#[]⟩, 0, 0)
/-- .. as the program lays them. -/
def fnCells : Array Value := #[.string ⟨#[97, 100, 100]⟩, .int .i64 2, .int .i64 2, .string ⟨#[97, 110, 100]⟩, .int .i64 1, .int .i64 9223372036854775807, .string ⟨#[100, 101, 102, 97, 117, 108, 116]⟩, .int .i64 2, .int .i64 2, .string ⟨#[100, 105, 99, 116]⟩, .int .i64 0, .int .i64 9223372036854775807, .string ⟨#[101, 113]⟩, .int .i64 2, .int .i64 2, .string ⟨#[103, 101, 116]⟩, .int .i64 2, .int .i64 2, .string ⟨#[104, 97, 115]⟩, .int .i64 2, .int .i64 2, .string ⟨#[105, 110, 100, 101, 110, 116]⟩, .int .i64 2, .int .i64 2, .string ⟨#[105, 110, 116]⟩, .int .i64 1, .int .i64 1, .string ⟨#[106, 111, 105, 110]⟩, .int .i64 2, .int .i64 2, .string ⟨#[107, 101, 121, 115]⟩, .int .i64 1, .int .i64 1, .string ⟨#[108, 101, 110]⟩, .int .i64 1, .int .i64 1, .string ⟨#[108, 105, 115, 116]⟩, .int .i64 0, .int .i64 9223372036854775807, .string ⟨#[108, 111, 119, 101, 114]⟩, .int .i64 1, .int .i64 1, .string ⟨#[108, 116]⟩, .int .i64 2, .int .i64 2, .string ⟨#[109, 117, 108]⟩, .int .i64 2, .int .i64 2, .string ⟨#[110, 101]⟩, .int .i64 2, .int .i64 2, .string ⟨#[110, 105, 110, 100, 101, 110, 116]⟩, .int .i64 2, .int .i64 2, .string ⟨#[110, 111, 116]⟩, .int .i64 1, .int .i64 1, .string ⟨#[111, 114]⟩, .int .i64 1, .int .i64 9223372036854775807, .string ⟨#[112, 114, 105, 110, 116]⟩, .int .i64 0, .int .i64 9223372036854775807, .string ⟨#[113, 117, 111, 116, 101]⟩, .int .i64 1, .int .i64 1, .string ⟨#[114, 101, 113, 117, 105, 114, 101, 100]⟩, .int .i64 2, .int .i64 2, .string ⟨#[115, 117, 98]⟩, .int .i64 2, .int .i64 2, .string ⟨#[116, 101, 114, 110, 97, 114, 121]⟩, .int .i64 3, .int .i64 3, .string ⟨#[116, 111, 83, 116, 114, 105, 110, 103]⟩, .int .i64 1, .int .i64 1, .string ⟨#[116, 111, 89, 97, 109, 108]⟩, .int .i64 1, .int .i64 1, .string ⟨#[116, 114, 105, 109]⟩, .int .i64 1, .int .i64 1, .string ⟨#[117, 112, 112, 101, 114]⟩, .int .i64 1, .int .i64 1]
abbrev fnRow (j : Nat) : Array Value := #[.string (fnAt j).1, .int .i64 (fnAt j).2.1, .int .i64 (fnAt j).2.2]
def FnTab (w : World) : Prop := ∃ t fr, w.heap[0]? = some (.cells fnCells t fr)
theorem FnTab.later {w w' : World} (h : FnTab w) (hb : Below w.heap.size w w') : FnTab w' := by
  obtain ⟨t, fr, h⟩ := h
  exact ⟨t, fr, (hb.block _ (Array.getElem?_eq_some_iff.1 h).1).trans h⟩
theorem fn_index (j : Nat) (hj : j < 29) (w : World) : (Instr.index 51 (.agg fnCells) (.int .i64 j)).run Tryz.prog w = .ok (.agg (fnRow j)) w := by
  rcases (by omega : j = 0 ∨ j = 1 ∨ j = 2 ∨ j = 3 ∨ j = 4 ∨ j = 5 ∨ j = 6 ∨ j = 7 ∨ j = 8 ∨ j = 9 ∨ j = 10 ∨ j = 11 ∨ j = 12 ∨ j = 13 ∨ j = 14 ∨ j = 15 ∨ j = 16 ∨ j = 17 ∨ j = 18 ∨ j = 19 ∨ j = 20 ∨ j = 21 ∨ j = 22 ∨ j = 23 ∨ j = 24 ∨ j = 25 ∨ j = 26 ∨ j = 27 ∨ j = 28) with rfl | rfl | rfl | rfl | rfl | rfl | rfl | rfl | rfl | rfl | rfl | rfl | rfl | rfl | rfl | rfl | rfl | rfl | rfl | rfl | rfl | rfl | rfl | rfl | rfl | rfl | rfl | rfl | rfl <;> kernel_rfl

theorem Tryz.structF : ∃ d, Tryz.prog.underlying 43 = some d ∧ (match d with | .struct _ | .array _ _ => true | _ => false) = true := ⟨_, Tryz.underlying43, rfl⟩
theorem Tryz.sizeF : (Tryz.prog.info? 43).map (·.size) = some 3 := by kernel_rfl
theorem cells3 {w : World} {g : Nat} {c0 c1 c2 : Value} (h0 : w.cell? ⟨g, 0, none⟩ = some c0) (h1 : w.cell? ⟨g, 1, none⟩ = some c1) (h2 : w.cell? ⟨g, 2, none⟩ = some c2) : ∀ i, i < 3 → ∃ u, w.cell? ⟨g, i, none⟩ = some u := fun i hi => by
  rcases (by omega : i = 0 ∨ i = 1 ∨ i = 2) with rfl | rfl | rfl
  · exact ⟨_, h0⟩
  · exact ⟨_, h1⟩
  · exact ⟨_, h2⟩

theorem one_boxF (w : World) : (w.alloc (.cells #[.string ⟨#[]⟩, .int .i64 0, .int .i64 0] 43)).cell? ⟨w.heap.size, 0, none⟩ = some (.string ⟨#[]⟩) ∧ (w.alloc (.cells #[.string ⟨#[]⟩, .int .i64 0, .int .i64 0] 43)).cell? ⟨w.heap.size, 1, none⟩ = some (.int .i64 0) ∧ (w.alloc (.cells #[.string ⟨#[]⟩, .int .i64 0, .int .i64 0] 43)).cell? ⟨w.heap.size, 2, none⟩ = some (.int .i64 0) ∧ ∀ j, (w.alloc (.cells #[.string ⟨#[]⟩, .int .i64 0, .int .i64 0] 43)).frozen? ⟨w.heap.size, j, none⟩ = false :=
  ⟨by rw [World.cell?_alloc_new]; rfl, by rw [World.cell?_alloc_new]; rfl, by rw [World.cell?_alloc_new]; rfl, fun j => by rw [World.frozen?_alloc_new]⟩

set_option maxRecDepth 100000 in
theorem ffind_any (name : ByteArray) (k : Nat) (hk : k < 29) (he : (fnAt k).1 = name) (hn : ∀ i, i < k → (fnAt i).1 ≠ name) (w : World) (hw : FnTab w) :
    Calls Tryz.prog 15 #[.string name] w fun e w' => e = .returned (.tuple #[.agg (fnRow k), .bool true]) ∧ Below w.heap.size w w' := by
  obtain ⟨tt, fr, hg⟩ := hw.later ((Below.refl _ _).alloc (Nat.le_refl _) (.cells #[.string ⟨#[]⟩, .int .i64 0, .int .i64 0] 43))
  have IX := Lib.hid fn_index
  obtain ⟨dd, hu, hdd⟩ := Tryz.structF
  have DD := Lib.hid hdd
  have HU := Lib.hid hu
  have HE := Lib.hid he
  have HN := Lib.hid hn
  clear hdd hu he hn
  go_enter Tryz.func15, Tryz.ntmps15
  generalize fnCells = A at *
  go_wp2_with (refine wpList_load_row rfl 51 _ rfl 0 rfl tt _ fr _ hg Tryz.underlying51 rfl (by kernel_rfl) ?_)
  have b0 := one_boxF w
  have HB0 := Lib.hid ((Below.refl w.heap.size w).alloc (Nat.le_refl _) (.cells #[.string ⟨#[]⟩, .int .i64 0, .int .i64 0] 43))
  have HS0 : Hid ((w.alloc (.cells #[.string ⟨#[]⟩, .int .i64 0, .int .i64 0] 43)).heap.size = w.heap.size + 1) := by show _ = _; simp
  have B0 := Lib.hid b0
  clear b0
  generalize w.alloc (.cells #[.string ⟨#[]⟩, .int .i64 0, .int .i64 0] 43) = v at *
  go_loopw [7] (fun v7 wr => ∃ (j : Nat), j ≤ k ∧ v7 = .int .i64 j ∧ Below v.heap.size v wr) (fun v7 _ => k - (intOf v7).toNat)
  case atStart => exact ⟨0, by omega, rfl, Below.refl _ _⟩
  case round =>
    obtain ⟨j, hj, rfl, hb⟩ := hrel
    have hj29 : j < 29 := by omega
    have ix : ∀ w, (Instr.index 51 (.agg A) (.int .i64 j)).run Tryz.prog w = .ok (.agg #[.string (fnAt j).1, .int .i64 (fnAt j).2.1, .int .i64 (fnAt j).2.2]) w := fun w => IX.out j hj29 w
    have hl : decide ((j : Int) < 29) = true := by simp; omega
    have HB := Lib.hid hb
    clear hb
    by_cases hjk : j = k
    · subst hjk
      have hnm := HE.out
      rw [hnm] at ix
      have hq : (name.toList == name.toList) = true := by simp
      have HR : Hid (fnRow j = #[.string name, .int .i64 (fnAt j).2.1, .int .i64 (fnAt j).2.2]) := by show _ = _; rw [fnRow, hnm]
      clear HE HN IX hnm
      obtain ⟨lo, hlo⟩ : ∃ x, x = (fnAt j).2.1 := ⟨_, rfl⟩
      obtain ⟨hi, hhi⟩ : ∃ x, x = (fnAt j).2.2 := ⟨_, rfl⟩
      rw [← hlo, ← hhi] at ix HR
      clear hlo hhi
      have hvr : w.heap.size < v.heap.size := by rw [HS0.out]; omega
      obtain ⟨p0, p1, p2, p3⟩ := B0.out
      have hba : Below v.heap.size v (wr.alloc (.cells #[.string name, .int .i64 lo, .int .i64 hi] 43)) := HB.out.alloc HB.out.size _
      have c0 := cells_frame hba p0
      have c1 := cells_frame hba p1
      have c2 := cells_frame hba p2
      have f : ∀ j, (wr.alloc (.cells #[.string name, .int .i64 lo, .int .i64 hi] 43)).frozen? ⟨w.heap.size, j, none⟩ = false := fun j => (hba.frozen (p := ⟨w.heap.size, j, none⟩) hvr).trans (p3 j)
      have HBA := Lib.hid hba
      have f0 := f 0
      have f1 := f 1
      have f2 := f 2
      clear p0 p1 p2 p3 f B0 hba
      go_wp2_with fail
      rw [HR.out]
      exact ret_cells_tmp (wr.alloc (.cells #[.string name, .int .i64 lo, .int .i64 hi] 43)) w.heap.size [.string name, .int .i64 lo, .int .i64 hi] rfl Tryz.results15 rfl rfl DD.out HU.out Tryz.sizeF (cells3 c0 c1 c2) ⟨rfl, setRow_below _ (Nat.le_refl _) _ _ _ (bstep HB0.out HBA.out HB0.out.size)⟩
    · have hq := str_ne (HN.out j (by omega))
      generalize (fnAt j).1 = nm at ix hq
      generalize (fnAt j).2.1 = lo at ix
      generalize (fnAt j).2.2 = hi at ix
      go_wp2_with fail
      go_roundw
      case rel => exact ⟨j + 1, by omega, by go_num, HB.out.alloc HB.out.size _⟩
      case measure => simp [intOf]; omega

end Go.Proofs.YthjdeckdklhphaaGreatDoor
