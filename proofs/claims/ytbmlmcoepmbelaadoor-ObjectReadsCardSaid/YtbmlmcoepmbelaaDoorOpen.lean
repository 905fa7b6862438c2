/-
  What every lifted proof of these laws needs.
-/
import Derived.Test.YtbmlmcoepmbelaaDoorRows
import Derived.Test.YtbmlmcoepmbelaaDoorLift
import Derived.ProofKit
import Derived.SizedLaws
set_option linter.unusedVariables false
set_option linter.unusedSimpArgs false
namespace Go.Proofs.YtbmlmcoepmbelaaDoor
open Go.ChangeShapes Go.WideShapes Go.ChangeAt Go.RowKit

theorem Tryd.own : ownKnob Tryd.prog.godebug = none := by kernel_rfl
theorem Tryd.laidOut : laidOutB Tryd.prog = true := by kernel_rfl

set_option maxRecDepth 100000 in
/-- An argument that is a value, opened. -/
theorem open_value {H : Type} {enc : TypeId × Value → H} {W : World} {sp : Nat → Bool} {base : Nat} {held : Bool} {v : Value} {d : DataW H} {ps : List MemPlace} {r : Reach} {b0 : Nat} (hval : Value.okWide Tryd.prog W r b0 25 v)
    (h : DataW.Trod enc Tryd.prog W base sp held 25 v d ps) (hs : SmallW Tryd.prog 25 d) : ∃ cs t, v = .agg cs ∧ Lies W (fun _ => True) t cs := by
  obtain ⟨cs, rfl, _⟩ := okWide_struct Tryd.underlying25 hval
  obtain ⟨fuel, hf⟩ := h
  obtain ⟨t, ht⟩ := lies_of_trod fuel _ _ hf hs
  have e : (Value.agg cs).cells.toList.toArray = cs := by show cs.toList.toArray = cs; exact Array.toArray_toList
  rw [e] at ht
  exact ⟨cs, t, rfl, ht⟩

/-- .. and read again behind the call. -/
theorem again_value {H : Type} {enc : TypeId × Value → H} {W W' : World} {v : Value} {d : DataW H} {ps : List MemPlace} (h : DataW.Trod enc Tryd.prog W 0 (fun _ => true) true 25 v d ps) (hb : Below W.heap.size W W') (hlt : ∀ x ∈ ps, x.block < W.heap.size) :
    DataW.Trod enc Tryd.prog W' 0 (fun b => decide (b < W.heap.size)) true 25 v d ps := Below.trod Tryd.laidOut (by kernel_rfl) (of_decide_eq_true (by kernel_rfl)) h hb hlt

def zeroCells : Array Value := #[.int .i64 0, .bool false, .int .i64 0, .string ⟨#[]⟩, .slice none 0 0, .slice none 0 0]


end Go.Proofs.YtbmlmcoepmbelaaDoor
