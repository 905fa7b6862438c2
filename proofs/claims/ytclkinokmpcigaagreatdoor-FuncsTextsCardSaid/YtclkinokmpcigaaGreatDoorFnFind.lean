/-
  Package funcs' find.
-/
import Derived.Test.YtclkinokmpcigaaGreatDoorBox
import Derived.Laws.Rows
import Derived.Deep.DeepCutAuto
set_option linter.unusedVariables false
set_option linter.unusedSimpArgs false
namespace Go.Proofs.YtclkinokmpcigaaGreatDoor
open Go.RowKit

/-- All functions: a name, and how many arguments, at least and at most. -/
def fnTab : List (ByteArray × Int × Int) := [(⟨#[97, 100, 100]⟩, 2, 2), (⟨#[97, 110, 100]⟩, 1, 9223372036854775807), (⟨#[100, 101, 102, 97, 117, 108, 116]⟩, 2, 2), (⟨#[100, 105, 99, 116]⟩, 0, 9223372036854775807), (⟨#[101, 113]⟩, 2, 2), (⟨#[103, 101, 116]⟩, 2, 2), (⟨#[104, 97, 115]⟩, 2, 2), (⟨#[105, 110, 100, 101, 110, 116]⟩, 2, 2), (⟨#[105, 110, 116]⟩, 1, 1), (⟨#[106, 111, 105, 110]⟩, 2, 2), (⟨#[107, 101, 121, 115]⟩, 1, 1), (⟨#[108, 101, 110]⟩, 1, 1), (⟨#[108, 105, 115, 116]⟩, 0, 9223372036854775807), (⟨#[108, 111, 119, 101, 114]⟩, 1, 1), (⟨#[108, 116]⟩, 2, 2), (⟨#[109, 117, 108]⟩, 2, 2), (⟨#[110, 101]⟩, 2, 2), (⟨#[110, 105, 110, 100, 101, 110, 116]⟩, 2, 2), (⟨#[110, 111, 116]⟩, 1, 1), (⟨#[111, 114]⟩, 1, 9223372036854775807), (⟨#[112, 114, 105, 110, 116]⟩, 0, 9223372036854775807), (⟨#[113, 117, 111, 116, 101]⟩, 1, 1), (⟨#[114, 101, 113, 117, 105, 114, 101, 100]⟩, 2, 2), (⟨#[115, 117, 98]⟩, 2, 2), (⟨#[116, 101, 114, 110, 97, 114, 121]⟩, 3, 3), (⟨#[116, 111, 83, 116, 114, 105, 110, 103]⟩, 1, 1), (⟨#[116, 111, 89, 97, 109, 108]⟩, 1, 1), (⟨#[116, 114, 105, 109]⟩, 1, 1), (⟨#[117, 112, 112, 101, 114]⟩, 1, 1)]
def fnAt (j : Nat) : ByteArray × Int × Int := fnTab.getD j (⟨#[]⟩, 0, 0)
/-- .. as the program lays them. -/
def fnCells : Array Value := #[.string ⟨#[97, 100, 100]⟩, .int .i64 2, .int .i64 2, .string ⟨#[97, 110, 100]⟩, .int .i64 1, .int .i64 9223372036854775807, .string ⟨#[100, 101, 102, 97, 117, 108, 116]⟩, .int .i64 2, .int .i64 2, .string ⟨#[100, 105, 99, 116]⟩, .int .i64 0, .int .i64 9223372036854775807, .string ⟨#[101, 113]⟩, .int .i64 2, .int .i64 2, .string ⟨#[103, 101, 116]⟩, .int .i64 2, .int .i64 2, .string ⟨#[104, 97, 115]⟩, .int .i64 2, .int .i64 2, .string ⟨#[105, 110, 100, 101, 110, 116]⟩, .int .i64 2, .int .i64 2, .string ⟨#[105, 110, 116]⟩, .int .i64 1, .int .i64 1, .string ⟨#[106, 111, 105, 110]⟩, .int .i64 2, .int .i64 2, .string ⟨#[107, 101, 121, 115]⟩, .int .i64 1, .int .i64 1, .string ⟨#[108, 101, 110]⟩, .int .i64 1, .int .i64 1, .string ⟨#[108, 105, 115, 116]⟩, .int .i64 0, .int .i64 9223372036854775807, .string ⟨#[108, 111, 119, 101, 114]⟩, .int .i64 1, .int .i64 1, .string ⟨#[108, 116]⟩, .int .i64 2, .int .i64 2, .string ⟨#[109, 117, 108]⟩, .int .i64 2, .int .i64 2, .string ⟨#[110, 101]⟩, .int .i64 2, .int .i64 2, .string ⟨#[110, 105, 110, 100, 101, 110, 116]⟩, .int .i64 2, .int .i64 2, .string ⟨#[110, 111, 116]⟩, .int .i64 1, .int .i64 1, .string ⟨#[111, 114]⟩, .int .i64 1, .int .i64 9223372036854775807, .string ⟨#[112, 114, 105, 110, 116]⟩, .int .i64 0, .int .i64 9223372036854775807, .string ⟨#[113, 117, 111, 116, 101]⟩, .int .i64 1, .int .i64 1, .string ⟨#[114, 101, 113, 117, 105, 114, 101, 100]⟩, .int .i64 2, .int .i64 2, .string ⟨#[115, 117, 98]⟩, .int .i64 2, .int .i64 2, .string ⟨#[116, 101, 114, 110, 97, 114, 121]⟩, .int .i64 3, .int .i64 3, .string ⟨#[116, 111, 83, 116, 114, 105, 110, 103]⟩, .int .i64 1, .int .i64 1, .string ⟨#[116, 111, 89, 97, 109, 108]⟩, .int .i64 1, .int .i64 1, .string ⟨#[116, 114, 105, 109]⟩, .int .i64 1, .int .i64 1, .string ⟨#[117, 112, 112, 101, 114]⟩, .int .i64 1, .int .i64 1]
abbrev fnRow (j : Nat) : Array Value := #[.string (fnAt j).1, .int .i64 (fnAt j).2.1, .int .i64 (fnAt j).2.2]
def FnTab (w : World) : Prop := ∃ t fr, w.heap[0]? = some (.cells fnCells t fr)
theorem FnTab.later {w w' : World} (h : FnTab w) (hb : Below w.heap.size w w') : FnTab w' := by
  obtain ⟨t, fr, h⟩ := h
  exact ⟨t, fr, (hb.block _ (Array.getElem?_eq_some_iff.1 h).1).trans h⟩
theorem fn_index (j : Nat) (hj : j < 29) (w : World) : (Instr.index 47 (.agg fnCells) (.int .i64 j)).run Tryz.prog w = .ok (.agg (fnRow j)) w := by
  rcases (by omega : j = 0 ∨ j = 1 ∨ j = 2 ∨ j = 3 ∨ j = 4 ∨ j = 5 ∨ j = 6 ∨ j = 7 ∨ j = 8 ∨ j = 9 ∨ j = 10 ∨ j = 11 ∨ j = 12 ∨ j = 13 ∨ j = 14 ∨ j = 15 ∨ j = 16 ∨ j = 17 ∨ j = 18 ∨ j = 19 ∨ j = 20 ∨ j = 21 ∨ j = 22 ∨ j = 23 ∨ j = 24 ∨ j = 25 ∨ j = 26 ∨ j = 27 ∨ j = 28) with rfl | rfl | rfl | rfl | rfl | rfl | rfl | rfl | rfl | rfl | rfl | rfl | rfl | rfl | rfl | rfl | rfl | rfl | rfl | rfl | rfl | rfl | rfl | rfl | rfl | rfl | rfl | rfl | rfl <;> kernel_rfl

theorem Tryz.structF : ∃ d, Tryz.prog.underlying 40 = some d ∧ (match d with | .struct _ | .array _ _ => true | _ => false) = true := ⟨_, Tryz.underlying40, rfl⟩
theorem Tryz.sizeF : (Tryz.prog.info? 40).map (·.size) = some 3 := by kernel_rfl
theorem cells3 {w : World} {g : Nat} {c0 c1 c2 : Value} (h0 : w.cell? ⟨g, 0, none⟩ = some c0) (h1 : w.cell? ⟨g, 1, none⟩ = some c1) (h2 : w.cell? ⟨g, 2, none⟩ = some c2) : ∀ i, i < 3 → ∃ u, w.cell? ⟨g, i, none⟩ = some u := fun i hi => by
  rcases (by omega : i = 0 ∨ i = 1 ∨ i = 2) with rfl | rfl | rfl
  · exact ⟨_, h0⟩
  · exact ⟨_, h1⟩
  · exact ⟨_, h2⟩

theorem one_boxF (w : World) : (w.alloc (.cells #[.string ⟨#[]⟩, .int .i64 0, .int .i64 0] 40)).cell? ⟨w.heap.size, 0, none⟩ = some (.string ⟨#[]⟩) ∧ (w.alloc (.cells #[.string ⟨#[]⟩, .int .i64 0, .int .i64 0] 40)).cell? ⟨w.heap.size, 1, none⟩ = some (.int .i64 0) ∧ (w.alloc (.cells #[.string ⟨#[]⟩, .int .i64 0, .int .i64 0] 40)).cell? ⟨w.heap.size, 2, none⟩ = some (.int .i64 0) ∧ ∀ j, (w.alloc (.cells #[.string ⟨#[]⟩, .int .i64 0, .int .i64 0] 40)).frozen? ⟨w.heap.size, j, none⟩ = false :=
  ⟨by rw [World.cell?_alloc_new]; rfl, by rw [World.cell?_alloc_new]; rfl, by rw [World.cell?_alloc_new]; rfl, fun j => by rw [World.frozen?_alloc_new]⟩

set_option maxRecDepth 100000 in
theorem ffind_any (name : ByteArray) (k : Nat) (hk : k < 29) (he : (fnAt k).1 = name) (hn : ∀ i, i < k → (fnAt i).1 ≠ name) (w : World) (hw : FnTab w) :
    Calls Tryz.prog 13 #[.string name] w fun e w' => e = .returned (.tuple #[.agg (fnRow k), .bool true]) ∧ Below w.heap.size w w' := by
  obtain ⟨tt, fr, hg⟩ := hw.later ((Below.refl _ _).alloc (Nat.le_refl _) (.cells #[.string ⟨#[]⟩, .int .i64 0, .int .i64 0] 40))
  have IX := Lib.hid fn_index
  obtain ⟨dd, hu, hdd⟩ := Tryz.structF
  have DD := Lib.hid hdd
  have HU := Lib.hid hu
  have HE := Lib.hid he
  have HN := Lib.hid hn
  clear hdd hu he hn
  go_enter Tryz.func13, Tryz.ntmps13
  generalize fnCells = A at *
  go_wp2_with (refine wpList_load_row rfl 47 _ rfl 0 rfl tt _ fr _ hg Tryz.underlying47 rfl (by kernel_rfl) ?_)
  have b0 := one_boxF w
  have HB0 := Lib.hid ((Below.refl w.heap.size w).alloc (Nat.le_refl _) (.cells #[.string ⟨#[]⟩, .int .i64 0, .int .i64 0] 40))
  have HS0 : Hid ((w.alloc (.cells #[.string ⟨#[]⟩, .int .i64 0, .int .i64 0] 40)).heap.size = w.heap.size + 1) := by show _ = _; simp
  have B0 := Lib.hid b0
  clear b0
  generalize w.alloc (.cells #[.string ⟨#[]⟩, .int .i64 0, .int .i64 0] 40) = v at *
  go_loopw [7] (fun v7 wr => ∃ (j : Nat), j ≤ k ∧ v7 = .int .i64 j ∧ Below v.heap.size v wr) (fun v7 _ => k - (intOf v7).toNat)
  case atStart => exact ⟨0, by omega, rfl, Below.refl _ _⟩
  case round =>
    obtain ⟨j, hj, rfl, hb⟩ := hrel
    have hj29 : j < 29 := by omega
    have ix : ∀ w, (Instr.index 47 (.agg A) (.int .i64 j)).run Tryz.prog w = .ok (.agg #[.string (fnAt j).1, .int .i64 (fnAt j).2.1, .int .i64 (fnAt j).2.2]) w := fun w => IX.out j hj29 w
    have hl : decide ((j : Int) < 29) = true := by simp; omega
    have HB := Lib.hid hb
    clear hb
    by_cases hjk : j = k
    · subst hjk
      have hnm := HE.out
      rw [hnm] at ix
      have hq : (name.toList == name.toList) = true := by simp
      have HR : Hid (fnRow j = #[.string name, .int .i64 (fnAt j).2.1, .int .i64 (fnAt j).2.2]) := by show _ = _; rw [fnRow, hnm]
      clear HE HN IX hnm
      obtain ⟨lo, hlo⟩ : ∃ x, x = (fnAt j).2.1 := ⟨_, rfl⟩
      obtain ⟨hi, hhi⟩ : ∃ x, x = (fnAt j).2.2 := ⟨_, rfl⟩
      rw [← hlo, ← hhi] at ix HR
      clear hlo hhi
      have hvr : w.heap.size < v.heap.size := by rw [HS0.out]; omega
      obtain ⟨p0, p1, p2, p3⟩ := B0.out
      have hba : Below v.heap.size v (wr.alloc (.cells #[.string name, .int .i64 lo, .int .i64 hi] 40)) := HB.out.alloc HB.out.size _
      have c0 := cells_frame hba p0
      have c1 := cells_frame hba p1
      have c2 := cells_frame hba p2
      have f : ∀ j, (wr.alloc (.cells #[.string name, .int .i64 lo, .int .i64 hi] 40)).frozen? ⟨w.heap.size, j, none⟩ = false := fun j => (hba.frozen (p := ⟨w.heap.size, j, none⟩) hvr).trans (p3 j)
      have HBA := Lib.hid hba
      have f0 := f 0
      have f1 := f 1
      have f2 := f 2
      clear p0 p1 p2 p3 f B0 hba
      go_wp2_with fail
      rw [HR.out]
      exact ret_cells_tmp (wr.alloc (.cells #[.string name, .int .i64 lo, .int .i64 hi] 40)) w.heap.size [.string name, .int .i64 lo, .int .i64 hi] rfl Tryz.results13 rfl rfl DD.out HU.out Tryz.sizeF (cells3 c0 c1 c2) ⟨rfl, setRow_below _ (Nat.le_refl _) _ _ _ (bstep HB0.out HBA.out HB0.out.size)⟩
    · have hq := str_ne (HN.out j (by omega))
      generalize (fnAt j).1 = nm at ix hq
      generalize (fnAt j).2.1 = lo at ix
      generalize (fnAt j).2.2 = hi at ix
      go_wp2_with fail
      go_roundw
      case rel => exact ⟨j + 1, by omega, by go_num, HB.out.alloc HB.out.size _⟩
      case measure => simp [intOf]; omega

end Go.Proofs.YtclkinokmpcigaaGreatDoor
