/-
  The reference's Parse: words that are no numbers.
-/
import Derived.Test.YtfadijofnaepnaaDoorNumP
set_option linter.unusedVariables false
set_option linter.unusedSimpArgs false
namespace Go.Proofs.YtfadijofnaepnaaDoor
open Go.RowKit

theorem ret_held {P : Program} {fn : Func} {R : Ending → World → Prop} {a : Act} {w : World} {p q : Tmp} {ty : TypeId} {d : TypeDesc} (g : Nat) (vs : Array Value) (h : fn.results = #[.cell p ty, .tmp q]) (hdef : a.defers = []) (hp : a.tmps.getD p undef = .pointer (some ⟨g, 0, none⟩))
    (hd : (match d with | .struct _ | .array _ _ => true | _ => false) = true) (hu : P.underlying ty = some d) (hi : (P.info? ty).map (·.size) = some vs.size) (hc : ∀ i (hi : i < vs.size), w.cell? ⟨g, i, none⟩ = some vs[i])
    (hR : R (.returned (.tuple #[.agg vs, a.tmps.getD q undef])) w) : bodyPost P fn R .ret a w := by
  have hp' : a.tmps[p]?.getD undef = .pointer (some ⟨g, 0, none⟩) := by simpa using hp
  refine bodyPost_ret (v := .tuple #[.agg vs, a.tmps.getD q undef]) ?_ hdef hR
  simp [results, h, hp', asAddr, run_loadVar_cells _ g ty vs d hd hu hc (by simpa using hi)]
theorem new_cells (w : World) (cs : Array Value) (t : TypeId) : ∀ i (hi : i < cs.size), (w.alloc (.cells cs t)).cell? ⟨w.heap.size, i, none⟩ = some cs[i] := fun i hi => by
  rw [World.cell?_alloc_new]
  exact Array.getElem?_eq_getElem hi
theorem own_below (w : World) (cs : Array Value) (t : TypeId) : Below w.heap.size w (w.alloc (.cells cs t)) := (Below.refl _ _).alloc (Nat.le_refl _) _
theorem six_size (k : Int) (b : Bool) (n : Int) (s : ByteArray) : (Tryd.prog.info? 25).map (·.size) = some (six k b n s).size := Tryd.sizeV

theorem r4Parse_none (w : World) : Calls Tryd.prog 11 #[.string ⟨#[]⟩] w (ParseTo w (six 0 false 0 ⟨#[]⟩) 0) := by
  obtain ⟨dd, hu, hdd⟩ := Tryd.structV
  have DD := Lib.hid hdd
  have HU := Lib.hid hu
  clear hdd hu
  go_enter Tryd.func11, Tryd.ntmps11
  go_wp2_with fail
  exact ret_held w.heap.size (six 0 false 0 ⟨#[]⟩) Tryd.results11 rfl rfl DD.out HU.out (six_size _ _ _ _) (new_cells w (six 0 false 0 ⟨#[]⟩) 25) ⟨rfl, own_below _ _ _⟩
theorem r4Parse_tilde (w : World) : Calls Tryd.prog 11 #[.string ⟨#[126]⟩] w (ParseTo w (six 0 false 0 ⟨#[]⟩) 0) := by
  obtain ⟨dd, hu, hdd⟩ := Tryd.structV
  have DD := Lib.hid hdd
  have HU := Lib.hid hu
  clear hdd hu
  go_enter Tryd.func11, Tryd.ntmps11
  go_wp2_with fail
  exact ret_held w.heap.size (six 0 false 0 ⟨#[]⟩) Tryd.results11 rfl rfl DD.out HU.out (six_size _ _ _ _) (new_cells w (six 0 false 0 ⟨#[]⟩) 25) ⟨rfl, own_below _ _ _⟩
theorem r4Parse_null (w : World) : Calls Tryd.prog 11 #[.string ⟨#[110, 117, 108, 108]⟩] w (ParseTo w (six 0 false 0 ⟨#[]⟩) 0) := by
  obtain ⟨dd, hu, hdd⟩ := Tryd.structV
  have DD := Lib.hid hdd
  have HU := Lib.hid hu
  clear hdd hu
  go_enter Tryd.func11, Tryd.ntmps11
  go_wp2_with fail
  exact ret_held w.heap.size (six 0 false 0 ⟨#[]⟩) Tryd.results11 rfl rfl DD.out HU.out (six_size _ _ _ _) (new_cells w (six 0 false 0 ⟨#[]⟩) 25) ⟨rfl, own_below _ _ _⟩
theorem r4Parse_true (w : World) : Calls Tryd.prog 11 #[.string ⟨#[116, 114, 117, 101]⟩] w (ParseTo w (six 1 true 0 ⟨#[]⟩) 0) := by
  obtain ⟨dd, hu, hdd⟩ := Tryd.structV
  have DD := Lib.hid hdd
  have HU := Lib.hid hu
  clear hdd hu
  go_enter Tryd.func11, Tryd.ntmps11
  go_wp2_with fail
  exact ret_held w.heap.size (six 1 true 0 ⟨#[]⟩) Tryd.results11 rfl rfl DD.out HU.out (six_size _ _ _ _) (new_cells w (six 1 true 0 ⟨#[]⟩) 25) ⟨rfl, own_below _ _ _⟩
theorem r4Parse_false (w : World) : Calls Tryd.prog 11 #[.string ⟨#[102, 97, 108, 115, 101]⟩] w (ParseTo w (six 1 false 0 ⟨#[]⟩) 0) := by
  obtain ⟨dd, hu, hdd⟩ := Tryd.structV
  have DD := Lib.hid hdd
  have HU := Lib.hid hu
  clear hdd hu
  go_enter Tryd.func11, Tryd.ntmps11
  go_wp2_with fail
  exact ret_held w.heap.size (six 1 false 0 ⟨#[]⟩) Tryd.results11 rfl rfl DD.out HU.out (six_size _ _ _ _) (new_cells w (six 1 false 0 ⟨#[]⟩) 25) ⟨rfl, own_below _ _ _⟩

end Go.Proofs.YtfadijofnaepnaaDoor
