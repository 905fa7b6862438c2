/-
  What every lifted proof of these laws needs.
-/
import Derived.Test.YtkonkjaabkmecaaGreatDoorRows
import Derived.Test.YtkonkjaabkmecaaGreatDoorLift
import Derived.ProofKit
import Derived.SizedLaws
set_option linter.unusedVariables false
set_option linter.unusedSimpArgs false
namespace Go.Proofs.YtkonkjaabkmecaaGreatDoor
open Go.ChangeShapes Go.WideShapes Go.ChangeAt Go.RowKit

theorem Tryz.own : ownKnob Tryz.prog.godebug = none := by kernel_rfl
theorem Tryz.laidOut : laidOutB Tryz.prog = true := by kernel_rfl

set_option maxRecDepth 100000 in
/-- An argument that is a value, opened. -/
theorem open_value {H : Type} {enc : TypeId × Value → H} {W : World} {sp : Nat → Bool} {base : Nat} {held : Bool} {v : Value} {d : DataW H} {ps : List MemPlace} {r : Reach} {b0 : Nat} (hval : Value.okWide Tryz.prog W r b0 27 v)
    (h : DataW.Trod enc Tryz.prog W base sp held 27 v d ps) (hs : SmallW Tryz.prog 27 d) : ∃ cs t, v = .agg cs ∧ Lies W (fun _ => True) t cs := by
  obtain ⟨cs, rfl, _⟩ := okWide_struct Tryz.underlying27 hval
  obtain ⟨fuel, hf⟩ := h
  obtain ⟨t, ht⟩ := lies_of_trod fuel _ _ hf hs
  have e : (Value.agg cs).cells.toList.toArray = cs := by show cs.toList.toArray = cs; exact Array.toArray_toList
  rw [e] at ht
  exact ⟨cs, t, rfl, ht⟩

/-- .. and read again behind the call. -/
theorem again_value {H : Type} {enc : TypeId × Value → H} {W W' : World} {v : Value} {d : DataW H} {ps : List MemPlace} (h : DataW.Trod enc Tryz.prog W 0 (fun _ => true) true 27 v d ps) (hb : Below W.heap.size W W') (hlt : ∀ x ∈ ps, x.block < W.heap.size) :
    DataW.Trod enc Tryz.prog W' 0 (fun b => decide (b < W.heap.size)) true 27 v d ps := Below.trod Tryz.laidOut (by kernel_rfl) (of_decide_eq_true (by kernel_rfl)) h hb hlt

def zeroCells : Array Value := #[.int .i64 0, .bool false, .int .i64 0, .string ⟨#[]⟩, .slice none 0 0, .slice none 0 0]


end Go.Proofs.YtkonkjaabkmecaaGreatDoor
