/-
  What every lifted proof of these laws needs.
-/
import Derived.Test.YtfhonjjhladddaaRows
import Derived.Test.YtfhonjjhladddaaLift
import Derived.ProofKit
import Derived.SizedLaws
set_option linter.unusedVariables false
set_option linter.unusedSimpArgs false
namespace Go.Proofs.Ytfhonjjhladddaa
open Go.ChangeShapes Go.WideShapes Go.ChangeAt Go.RowKit

theorem Try.own : ownKnob Try.prog.godebug = none := by kernel_rfl
theorem Try.laidOut : laidOutB Try.prog = true := by kernel_rfl

set_option maxRecDepth 100000 in
/-- An argument that is a value, opened. -/
theorem open_value {H : Type} {enc : TypeId × Value → H} {W : World} {sp : Nat → Bool} {base : Nat} {held : Bool} {v : Value} {d : DataW H} {ps : List MemPlace} {r : Reach} {b0 : Nat} (hval : Value.okWide Try.prog W r b0 25 v)
    (h : DataW.Trod enc Try.prog W base sp held 25 v d ps) (hs : SmallW Try.prog 25 d) : ∃ cs t, v = .agg cs ∧ Lies W (fun _ => True) t cs := by
  obtain ⟨cs, rfl, _⟩ := okWide_struct Try.underlying25 hval
  obtain ⟨fuel, hf⟩ := h
  obtain ⟨t, ht⟩ := lies_of_trod fuel _ _ hf hs
  have e : (Value.agg cs).cells.toList.toArray = cs := by show cs.toList.toArray = cs; exact Array.toArray_toList
  rw [e] at ht
  exact ⟨cs, t, rfl, ht⟩

/-- .. and read again behind the call. -/
theorem again_value {H : Type} {enc : TypeId × Value → H} {W W' : World} {v : Value} {d : DataW H} {ps : List MemPlace} (h : DataW.Trod enc Try.prog W 0 (fun _ => true) true 25 v d ps) (hb : Below W.heap.size W W') (hlt : ∀ x ∈ ps, x.block < W.heap.size) :
    DataW.Trod enc Try.prog W' 0 (fun b => decide (b < W.heap.size)) true 25 v d ps := Below.trod Try.laidOut (by kernel_rfl) (of_decide_eq_true (by kernel_rfl)) h hb hlt

def zeroCells : Array Value := #[.int .i64 0, .bool false, .int .i64 0, .string ⟨#[]⟩, .slice none 0 0, .slice none 0 0]


end Go.Proofs.Ytfhonjjhladddaa

/-
  An argument that is a slice of values.
-/
set_option linter.unusedVariables false
set_option linter.unusedSimpArgs false
namespace Go.Proofs.Ytfhonjjhladddaa
open Go.ChangeShapes Go.WideShapes Go.ChangeAt Go.RowKit

set_option maxRecDepth 100000 in
/-- An argument that is a slice of values, opened. -/
theorem open_values {H : Type} {enc : TypeId × Value → H} {W : World} {sp : Nat → Bool} {base : Nat} {held : Bool} {v : Value} {d : DataW H} {ps : List MemPlace} {r : Reach} {b0 : Nat} (hval : Value.okWide Try.prog W r b0 22 v)
    (h : DataW.Trod enc Try.prog W base sp held 22 v d ps) (hs : SmallW Try.prog 22 d) : ∃ ts a cap cl, v = .slice a ts.length cap ∧ SliceV W (fun _ => True) ts a cap cl := by
  obtain ⟨a0, n0, c0, rfl⟩ := okWide_slice Try.underlying22 hval
  obtain ⟨fuel, hf⟩ := h
  obtain ⟨a, len, cap, cl, e, hle, hm, hb, hn, hsome, hE⟩ := slice_lift (p := fun c => ∃ t, Lies W (fun _ => True) t c.toArray) Try.underlying22 Try.cellsV (by omega) (c := .slice a0 n0 c0) hf hs (fun n' cs' y hlt hy hsy => lies_of_trod n' cs' y hy hsy)
  rw [Try.bytesV, reach_47] at hb
  unfold maxLen at hm
  obtain ⟨fl, hfl⟩ : ∃ fl : Nat → T, ∀ i, i < len → Lies W (fun _ => True) (fl i) (cl i).toArray := by
    have : ∀ i, ∃ t, i < len → Lies W (fun _ => True) t (cl i).toArray := fun i => by
      by_cases hi : i < len
      · obtain ⟨t, ht⟩ := (hE i hi).1; exact ⟨t, fun _ => ht⟩
      · exact ⟨T.mk 0 false 0 ⟨#[]⟩ [] [], fun q => absurd q hi⟩
    exact ⟨fun i => (this i).choose, fun i hi => (this i).choose_spec hi⟩
  have hlen : ((List.range len).map fl).length = len := by simp
  refine ⟨(List.range len).map fl, a, cap, fun i => (cl i).toArray, by rw [hlen]; exact e, ⟨⟨by omega, by omega, hn, fun hp => ?_, by omega⟩, fun i hi bl ol ea j hj => ?_, fun i hi => ?_⟩⟩
  · obtain ⟨bl, ol, e2⟩ := hsome (by omega)
    exact ⟨bl, ol, e2, trivial⟩
  · have hi2 : i < len := by omega
    have hj2 : j < (cl i).length := by simpa using hj
    have := (hE i hi2).2.2 bl ol ea j hj2
    rw [this]
    simp
  · have hi2 : i < len := by omega
    have : ((List.range len).map fl)[i] = fl i := by simp
    rw [this]
    exact hfl i hi2

set_option maxRecDepth 100000 in
theorem again_values {H : Type} {enc : TypeId × Value → H} {W W' : World} {v : Value} {d : DataW H} {ps : List MemPlace} (h : DataW.Trod enc Try.prog W 0 (fun _ => true) true 22 v d ps) (hb : Below W.heap.size W W') (hlt : ∀ x ∈ ps, x.block < W.heap.size) :
    DataW.Trod enc Try.prog W' 0 (fun b => decide (b < W.heap.size)) true 22 v d ps := Below.trod Try.laidOut (by kernel_rfl) (of_decide_eq_true (by kernel_rfl)) h hb hlt

end Go.Proofs.Ytfhonjjhladddaa
