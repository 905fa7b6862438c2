/-
  What package tree makes of plain things: nothing, a truth, a text, a list.
-/
import Derived.Test.YtclkinokmpcigaaGreatDoorAwake
set_option linter.unusedVariables false
set_option linter.unusedSimpArgs false
namespace Go.Proofs.YtclkinokmpcigaaGreatDoor
open Go.RowKit Go.Sort

theorem tNull_any (w : World) : Calls Tryz.prog 12 #[] w fun e w' => e = .returned (.agg #[.int .i64 0, .bool false, .int .i64 0, .string ⟨#[]⟩, .slice none 0 0, .slice none 0 0]) ∧ Below w.heap.size w w' := by
  go_enter Tryz.func12, Tryz.ntmps12
  go_wp2_with fail
  obtain ⟨dd, hu, hdd⟩ := Tryz.structV
  refine ret_read w.heap.size #[.int .i64 0, .bool false, .int .i64 0, .string ⟨#[]⟩, .slice none 0 0, .slice none 0 0] Tryz.results12 rfl rfl hdd hu Tryz.sizeV (fun i hi => by rw [World.cell?_alloc_new]; exact Array.getElem?_eq_getElem hi) ?_
  exact ⟨rfl, (Below.refl _ _).alloc (Nat.le_refl _) _⟩

theorem tBool_any (b : Bool) (w : World) : Calls Tryz.prog 27 #[.bool b] w fun e w' => e = .returned (.agg #[.int .i64 1, .bool b, .int .i64 0, .string ⟨#[]⟩, .slice none 0 0, .slice none 0 0]) ∧ Below w.heap.size w w' := by
  go_enter Tryz.func27, Tryz.ntmps27
  go_wp2_with fail
  obtain ⟨dd, hu, hdd⟩ := Tryz.structV
  refine ret_read w.heap.size #[.int .i64 1, .bool b, .int .i64 0, .string ⟨#[]⟩, .slice none 0 0, .slice none 0 0] Tryz.results27 rfl rfl hdd hu Tryz.sizeV (fun i hi => by rw [World.cell?_alloc_new]; exact Array.getElem?_eq_getElem hi) ?_
  exact ⟨rfl, (Below.refl _ _).alloc (Nat.le_refl _) _⟩

theorem tStr_any (s : ByteArray) (w : World) : Calls Tryz.prog 8 #[.string s] w fun e w' => e = .returned (.agg #[.int .i64 3, .bool false, .int .i64 0, .string s, .slice none 0 0, .slice none 0 0]) ∧ Below w.heap.size w w' := by
  go_enter Tryz.func8, Tryz.ntmps8
  go_wp2_with fail
  obtain ⟨dd, hu, hdd⟩ := Tryz.structV
  refine ret_read w.heap.size #[.int .i64 3, .bool false, .int .i64 0, .string s, .slice none 0 0, .slice none 0 0] Tryz.results8 rfl rfl hdd hu Tryz.sizeV (fun i hi => by rw [World.cell?_alloc_new]; exact Array.getElem?_eq_getElem hi) ?_
  exact ⟨rfl, (Below.refl _ _).alloc (Nat.le_refl _) _⟩

theorem one_boxV {w w1 : World} {cs : Array Value} {ty : TypeId} (h : Below (w.alloc (.cells cs ty)).heap.size (w.alloc (.cells cs ty)) w1) :
    (∀ j, w1.cell? ⟨w.heap.size, j, none⟩ = cs[j]?) ∧ (∀ j, w1.frozen? ⟨w.heap.size, j, none⟩ = false) :=
  ⟨fun j => by rw [h.cell (p := ⟨w.heap.size, j, none⟩) (by simp), World.cell?_alloc_new], fun j => by rw [h.frozen (p := ⟨w.heap.size, j, none⟩) (by simp), World.frozen?_alloc_new]⟩

def T.listOf (ts : List T) : T := .mk 4 false 0 ⟨#[]⟩ ts []
def MadeL (w : World) (ts : List T) (e : Ending) (w' : World) : Prop := ∃ ds, e = .returned (.agg ds) ∧ Lies w' (fun b => w.heap.size ≤ b) (T.listOf ts) ds ∧ Below w.heap.size w w'
theorem wf4 : (Lit.int .i64 4).wf = true := by decide

set_option maxHeartbeats 800000 in
theorem tList_any {w0 : World} {R : Nat → Prop} {ts : List T} {a : Option Addr} {cap : Nat} {cl : Nat → Array Value} (h : SliceV w0 R ts a cap cl) (w : World) (hw : Below w0.heap.size w0 w) :
    Calls Tryz.prog 9 #[.slice a ts.length cap] w (MadeL w ts) := by
  have CV := Lib.hid (fun w hw => cloneValues_any h (fun i p w hw => tClone_any (h.each i p) w hw) w hw)
  go_enter Tryz.func9, Tryz.ntmps9
  go_wp2_with fail
  refine (CV.out _ (bbox hw _ hw.size)).mono ?_
  rintro e w1 ⟨a1, c1, dl1, rfl, hS1, hb1⟩
  obtain ⟨y1, y2⟩ := one_boxV hb1
  have hs1 := hb1.size
  simp only [World.size_alloc] at hs1
  have HS := Lib.hid hS1
  have HB := Lib.hid hb1
  have Y1 := Lib.hid y1
  clear hS1 hb1
  go_wp2_with fail
  obtain ⟨dd, hu, hdd⟩ := Tryz.structV
  refine ret_cells w1 w.heap.size [.int .i64 4, .bool false, .int .i64 0, .string ⟨#[]⟩, .slice a1 ts.length c1, .slice none 0 0] rfl Tryz.results9 rfl rfl hdd hu Tryz.sizeV (fun i hi => ⟨_, (Y1.out i).trans (Array.getElem?_eq_getElem (show i < 6 from hi))⟩) ?_
  refine ⟨_, rfl, Lies.of_slices wf4 wf0 empty_size ((HS.out.keepB (fun x hx _ => ?_)).weaken (fun x hx => ?_)) (empty_sliceP _ _), ?_⟩
  · simp only [World.size_alloc] at hx
    exact setRow_heap _ _ _ _ _ (by omega)
  · simp only [World.size_alloc] at hx
    omega
  · exact setRow_below _ (Nat.le_refl _) _ _ _ (bunbox HB.out (Nat.le_refl _) (by simp))

end Go.Proofs.YtclkinokmpcigaaGreatDoor
