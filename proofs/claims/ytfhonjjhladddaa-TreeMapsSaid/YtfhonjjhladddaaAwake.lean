/-
  That the statements look at the program at all: their closed run.
-/
import Derived.Test.YtfhonjjhladddaaMapTopM
set_option linter.unusedVariables false
set_option linter.unusedSimpArgs false
namespace Go.Proofs.Ytfhonjjhladddaa
open Go.RowKit Go.Sort

def T.int (n : Int) : T := .mk 2 false n ⟨#[]⟩ [] []

/-- A result that lies in a variable as it is. -/
theorem ret_read {P : Program} {fn : Func} {R : Ending → World → Prop} {a : Act} {w : World} {p : Tmp} {ty : TypeId} {d : TypeDesc} (g : Nat) (cs : Array Value) (h : fn.results = #[.cell p ty]) (hdef : a.defers = []) (hp : a.tmps.getD p undef = .pointer (some ⟨g, 0, none⟩))
    (hd : (match d with | .struct _ | .array _ _ => true | _ => false) = true) (hu : P.underlying ty = some d) (hi : (P.info? ty).map (·.size) = some cs.size) (hc : ∀ i (h : i < cs.size), w.cell? ⟨g, i, none⟩ = some cs[i])
    (hR : R (.returned (.agg cs)) w) : bodyPost P fn R .ret a w := bodyPost_ret (results_cells h _ _ g cs d hd hu hp hc hi) hdef hR

theorem tInt_any (n : Int) (w : World) : Calls Try.prog 28 #[.int .i64 n] w fun e w' => e = .returned (.agg #[.int .i64 2, .bool false, .int .i64 n, .string ⟨#[]⟩, .slice none 0 0, .slice none 0 0]) ∧ Below w.heap.size w w' := by
  go_enter Try.func28, Try.ntmps28
  go_wp2_with fail
  obtain ⟨dd, hu, hdd⟩ := Try.structV
  refine ret_read w.heap.size #[.int .i64 2, .bool false, .int .i64 n, .string ⟨#[]⟩, .slice none 0 0, .slice none 0 0] Try.results28 rfl rfl hdd hu Try.sizeV (fun i hi => by rw [World.cell?_alloc_new]; exact Array.getElem?_eq_getElem hi) ?_
  exact ⟨rfl, (Below.refl _ _).alloc (Nat.le_refl _) _⟩

theorem empty_sliceP (w : World) (R : Nat → Prop) : SliceP w R [] none 0 (fun _ => #[]) := ⟨⟨by simp, by simp, fun _ => rfl, fun hp => absurd hp (by simp), by omega⟩, fun i hi => absurd hi (by simp), fun i hi => absurd hi (by simp), fun i hi => absurd hi (by simp)⟩
theorem wf2 : (Lit.int .i64 2).wf = true := by decide
theorem int_lies (w : World) (R : Nat → Prop) (n : Int) (hn : (Lit.int .i64 n).wf = true) : Lies w R (T.int n) #[.int .i64 2, .bool false, .int .i64 n, .string ⟨#[]⟩, .slice none 0 0, .slice none 0 0] :=
  Lies.of_slices wf2 hn empty_size (empty_sliceV w R) (empty_sliceP w R)

def kA : ByteArray := ⟨#[97]⟩
def kB : ByteArray := ⟨#[98]⟩
def three : List (ByteArray × T) := [(kB, T.int 1), (kA, T.int 2), (kB, T.int 3)]
def intCells (n : Int) : Array Value := #[.int .i64 2, .bool false, .int .i64 n, .string ⟨#[]⟩, .slice none 0 0, .slice none 0 0]
def threeCells : Array Value := #[.string ⟨#[98]⟩, .int .i64 2, .bool false, .int .i64 1, .string ⟨#[]⟩, .slice none 0 0, .slice none 0 0, .string ⟨#[97]⟩, .int .i64 2, .bool false, .int .i64 2, .string ⟨#[]⟩, .slice none 0 0, .slice none 0 0, .string ⟨#[98]⟩, .int .i64 2, .bool false, .int .i64 3, .string ⟨#[]⟩, .slice none 0 0, .slice none 0 0]

theorem three_cell (w : World) (t : TypeId) (j : Nat) (hj : j < 21) : (w.alloc (.cells threeCells t)).cell? ⟨w.heap.size, j, none⟩ = some (threeCells[j]'hj) := by
  rw [World.cell?_alloc_new]; exact Array.getElem?_eq_getElem hj

theorem three_slice (w : World) : SliceP (w.alloc (.cells threeCells 36)) (fun _ => True) three (some ⟨w.heap.size, 0, none⟩) 3 (fun i => intCells (i + 1)) := by
  refine ⟨⟨by decide, by simp [three], by simp, fun _ => ⟨_, _, rfl, trivial⟩, by omega⟩, fun i hi bl ol e => ?_, fun i hi => ?_, fun i hi => ?_⟩
  · simp only [Option.some.injEq, Addr.mk.injEq, and_true] at e
    obtain ⟨rfl, rfl⟩ := e
    have hi3 : i < 3 := hi
    intro j hj
    have hj7 : j < 7 := by simpa [intCells] using hj
    rw [Nat.zero_add, three_cell w _ (i * 7 + j) (by omega)]
    rcases (by omega : i = 0 ∨ i = 1 ∨ i = 2) with rfl | rfl | rfl <;> rcases (by omega : j = 0 ∨ j = 1 ∨ j = 2 ∨ j = 3 ∨ j = 4 ∨ j = 5 ∨ j = 6) with rfl | rfl | rfl | rfl | rfl | rfl | rfl <;> rfl
  · have hi3 : i < 3 := hi
    rcases (by omega : i = 0 ∨ i = 1 ∨ i = 2) with rfl | rfl | rfl <;> exact (by decide : (1 : Nat) ≤ 140737488355328)
  · have hi3 : i < 3 := hi
    rcases (by omega : i = 0 ∨ i = 1 ∨ i = 2) with rfl | rfl | rfl
    · exact int_lies _ _ 1 (by decide)
    · exact int_lies _ _ 2 (by decide)
    · exact int_lies _ _ 3 (by decide)

theorem three_kept : keepTo (·.1) (insN (·.1) three.length three) three.length = [(kA, T.int 2), (kB, T.int 3)] := by kernel_rfl
theorem three_map : T.mkMap three = .mk 5 false 0 ⟨#[]⟩ [] [(kA, T.int 2), (kB, T.int 3)] := by unfold T.mkMap; rw [three_kept]
theorem get_a : (T.mk 5 false 0 ⟨#[]⟩ [] [(kA, T.int 2), (kB, T.int 3)]).get kA = some (T.int 2) := by kernel_rfl
theorem get_b : (T.mk 5 false 0 ⟨#[]⟩ [] [(kA, T.int 2), (kB, T.int 3)]).get kB = some (T.int 3) := by kernel_rfl

set_option maxRecDepth 100000 in
set_option maxHeartbeats 1600000 in
theorem awake_any (w : World) : Calls Try.prog 7 #[] w fun e w' => e = .returned (.bool true) ∧ Below w.heap.size w w' := by
  go_enter Try.func7, Try.ntmps7
  go_wp2_with fail
  refine (tInt_any 1 _).mono ?_
  rintro e w1 ⟨rfl, hb1⟩
  go_wp2_with fail
  refine (tInt_any 2 _).mono ?_
  rintro e w2 ⟨rfl, hb2⟩
  go_wp2_with fail
  refine (tInt_any 3 _).mono ?_
  rintro e w3 ⟨rfl, hb3⟩
  go_wp2_with fail
  refine (tMap_few (three_slice w3) (by decide) (by decide) _ (Below.refl _ _)).mono ?_
  rintro e w4 ⟨ds, rfl, hL, hb4⟩
  rw [three_map] at hL
  have HL := Lib.hid hL
  obtain ⟨la, lc, ma, mc, rfl⟩ : ∃ la lc ma mc, ds = #[.int .i64 5, .bool false, .int .i64 0, .string ⟨#[]⟩, .slice la 0 lc, .slice ma 2 mc] := by cases hL; exact ⟨_, _, _, _, rfl⟩
  clear hL
  have GA := fun w' hw' => tGet_any HL.out kA w' hw'
  have GB := fun w' hw' => tGet_any HL.out kB w' hw'
  rw [get_a] at GA
  rw [get_b] at GB
  have HGA := Lib.hid GA
  have HGB := Lib.hid GB
  clear GA GB
  go_wp2_with fail
  have hbx := bbox (Below.refl w4.heap.size w4) (.cells #[.int .i64 5, .bool false, .int .i64 0, .string ⟨#[]⟩, .slice la 0 lc, .slice ma 2 mc] 25) (Nat.le_refl _)
  refine (HGA.out _ hbx).mono ?_
  rintro e w5 ⟨da, rfl, hA, hb5⟩
  obtain ⟨xa, ya, za, ua, rfl⟩ : ∃ la lc ma mc, da = #[.int .i64 2, .bool false, .int .i64 2, .string ⟨#[]⟩, .slice la 0 lc, .slice ma 0 mc] := by
    have : Lies w5 _ (T.mk 2 false 2 ⟨#[]⟩ [] []) da := hA
    cases this; exact ⟨_, _, _, _, rfl⟩
  have x0 : w5.cell? ⟨w4.heap.size, 0, none⟩ = some (.int .i64 5) := box_cell hb5 (by simp) rfl
  have x1 : w5.cell? ⟨w4.heap.size, 1, none⟩ = some (.bool false) := box_cell hb5 (by simp) rfl
  have x2 : w5.cell? ⟨w4.heap.size, 2, none⟩ = some (.int .i64 0) := box_cell hb5 (by simp) rfl
  have x3 : w5.cell? ⟨w4.heap.size, 3, none⟩ = some (.string ⟨#[]⟩) := box_cell hb5 (by simp) rfl
  have x4 : w5.cell? ⟨w4.heap.size, 4, none⟩ = some (.slice la 0 lc) := box_cell hb5 (by simp) rfl
  have x5 : w5.cell? ⟨w4.heap.size, 5, none⟩ = some (.slice ma 2 mc) := box_cell hb5 (by simp) rfl
  have hbA := Below.alloc (Below.refl w5.heap.size w5) (Nat.le_refl _) (.cells #[.int .i64 2, .bool false, .int .i64 2, .string ⟨#[]⟩, .slice xa 0 ya, .slice za 0 ua] 25)
  have y0 := cells_frame hbA x0
  have y1 := cells_frame hbA x1
  have y2 := cells_frame hbA x2
  have y3 := cells_frame hbA x3
  have y4 := cells_frame hbA x4
  have y5 := cells_frame hbA x5
  go_wp2_with fail
  have hb6 := bbox (bunbox hb5 (Nat.le_refl _) (by simp)) (.cells #[.int .i64 2, .bool false, .int .i64 2, .string ⟨#[]⟩, .slice xa 0 ya, .slice za 0 ua] 25) (by have := hb5.size; simp at this; omega)
  refine (HGB.out _ hb6).mono ?_
  rintro e w6 ⟨db, rfl, hB, hb7⟩
  obtain ⟨xb, yb, zb, ub, rfl⟩ : ∃ la lc ma mc, db = #[.int .i64 2, .bool false, .int .i64 3, .string ⟨#[]⟩, .slice la 0 lc, .slice ma 0 mc] := by
    have : Lies w6 _ (T.mk 2 false 3 ⟨#[]⟩ [] []) db := hB
    cases this; exact ⟨_, _, _, _, rfl⟩
  have hbB := Below.alloc (Below.refl w6.heap.size w6) (Nat.le_refl _) (.cells #[.int .i64 2, .bool false, .int .i64 3, .string ⟨#[]⟩, .slice xb 0 yb, .slice zb 0 ub] 25)
  have z5 := cells_frame hbB (cells_frame hb7 y5)
  have a2 : w6.cell? ⟨w5.heap.size, 2, none⟩ = some (.int .i64 2) := box_cell hb7 (by simp) rfl
  have a3 := cells_frame hbB a2
  go_wp2_with fail
  go_ret
  have c3 := bstep (bstep hb1 hb2 hb1.size) hb3 (by have := hb1.size; have := hb2.size; omega)
  have s3 := c3.size
  have c4 := bstep (bbox c3 (.cells threeCells 36) s3) hb4 (by simp; omega)
  have c6 := bstep c4 hb6 c4.size
  have c7 := bstep c6 hb7 c6.size
  exact ⟨rfl, bbox c7 _ c7.size⟩
end Go.Proofs.Ytfhonjjhladddaa
