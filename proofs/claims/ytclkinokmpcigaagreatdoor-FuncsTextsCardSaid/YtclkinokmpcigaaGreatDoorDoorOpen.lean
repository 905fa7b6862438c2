/-
  What every lifted proof of a law on texts needs, where the row lists variables: a wrap that keeps the world's shape, a text opened.
-/
import Derived.Test.YtclkinokmpcigaaGreatDoorDoorWrap
set_option linter.unusedVariables false
set_option linter.unusedSimpArgs false
namespace Go.Proofs.YtclkinokmpcigaaGreatDoor
open Go.ChangeShapes Go.WideShapes Go.ChangeAt Go.RowKit

theorem Tryz.own : ownKnob Tryz.prog.godebug = none := by kernel_rfl
theorem Tryz.laidOut : laidOutB Tryz.prog = true := by kernel_rfl
def SmallW {H : Type} (P : Program) (t : TypeId) (d : DataW H) : Prop := ∀ n ∈ d.weights P t, n ≤ reachBytes
theorem small_text {H : Type} {P : Program} {t : TypeId} {b : List UInt8} (h : SmallW (H := H) P t (.lit (.string b))) : b.length ≤ reachBytes := h _ (by simp [DataW.weights])
theorem reach_two47 : reachBytes = 140737488351232 := by decide

set_option maxRecDepth 100000 in
/-- An argument that is a text, opened. -/
theorem open_text {H : Type} {enc : TypeId × Value → H} {W : World} {sp : Nat → Bool} {base : Nat} {held : Bool} {v : Value} {d : DataW H} {ps : List MemPlace} {r : Reach} {b0 : Nat} (hval : Value.okWide Tryz.prog W r b0 9 v)
    (h : DataW.Trod enc Tryz.prog W base sp held 9 v d ps) (hs : SmallW Tryz.prog 9 d) : ∃ s : ByteArray, v = .string s ∧ s.size ≤ 140737488355328 := by
  obtain ⟨s, rfl⟩ := okWide_string Tryz.underlying9 hval
  obtain ⟨fuel, hf⟩ := h
  obtain ⟨s2, e, ex, _⟩ := DataW.trod_string Tryz.underlying9 hf
  refine ⟨s, rfl, ?_⟩
  have e2 : s2 = s := by
    have : (Value.string s).cells.toList = [.string s] := rfl
    rw [this] at e
    injection e with e
    injection e with e
    exact e.symm
  subst e2
  have ed : d = .lit (.string s2.data.toList) := by injection ex
  subst ed
  have h1 := small_text hs
  rw [reach_two47] at h1
  have h2 : s2.size = s2.data.toList.length := rfl
  omega

set_option maxRecDepth 100000 in
theorem again_text {H : Type} {enc : TypeId × Value → H} {W W' : World} {v : Value} {d : DataW H} {ps : List MemPlace} (h : DataW.Trod enc Tryz.prog W 0 (fun _ => true) true 9 v d ps) (hb : Below W.heap.size W W') (hlt : ∀ x ∈ ps, x.block < W.heap.size) :
    DataW.Trod enc Tryz.prog W' 0 (fun b => decide (b < W.heap.size)) true 9 v d ps := Below.trod Tryz.laidOut (by kernel_rfl) (of_decide_eq_true (by kernel_rfl)) h hb hlt

set_option maxRecDepth 100000 in
theorem open_byte {H : Type} {enc : TypeId × Value → H} {W : World} {sp : Nat → Bool} {base : Nat} {held : Bool} {v : Value} {d : DataW H} {ps : List MemPlace} {r : Reach} {b0 : Nat} (hval : Value.okWide Tryz.prog W r b0 5 v)
    (h : DataW.Trod enc Tryz.prog W base sp held 5 v d ps) : ∃ c : UInt8, v = .int .u8 c.toNat := by
  obtain ⟨n, rfl⟩ := okWide_int Tryz.underlying5 hval
  obtain ⟨fuel, hf⟩ := h
  obtain ⟨n2, e, _, hw⟩ := DataW.trod_int Tryz.underlying5 hf
  have : (Value.int .u8 n).cells.toList = [.int .u8 n] := rfl
  rw [this] at e
  injection e with e
  injection e with _ e
  subst e
  have hb : 0 ≤ n ∧ n < 256 := by
    have h2 := (Lit.wf_int_iff _ _).1 hw
    have e1 : IntKind.u8.min = 0 := by decide
    have e2 : IntKind.u8.max = 255 := by decide
    rw [e1, e2] at h2
    omega
  refine ⟨UInt8.ofNat n.toNat, ?_⟩
  have h3 : (UInt8.ofNat n.toNat).toNat = n.toNat := by simp; omega
  rw [h3]
  congr 1
  omega
set_option maxRecDepth 100000 in
theorem again_byte {H : Type} {enc : TypeId × Value → H} {W W' : World} {v : Value} {d : DataW H} {ps : List MemPlace} (h : DataW.Trod enc Tryz.prog W 0 (fun _ => true) true 5 v d ps) (hb : Below W.heap.size W W') (hlt : ∀ x ∈ ps, x.block < W.heap.size) :
    DataW.Trod enc Tryz.prog W' 0 (fun b => decide (b < W.heap.size)) true 5 v d ps := Below.trod Tryz.laidOut (by kernel_rfl) (of_decide_eq_true (by kernel_rfl)) h hb hlt

set_option maxRecDepth 100000 in
theorem open_int64 {H : Type} {enc : TypeId × Value → H} {W : World} {sp : Nat → Bool} {base : Nat} {held : Bool} {v : Value} {d : DataW H} {ps : List MemPlace} {r : Reach} {b0 : Nat} (hval : Value.okWide Tryz.prog W r b0 2 v)
    (h : DataW.Trod enc Tryz.prog W base sp held 2 v d ps) : ∃ n, v = .int .i64 n ∧ -9223372036854775808 ≤ n ∧ n ≤ 9223372036854775807 := by
  obtain ⟨n, rfl⟩ := okWide_int Tryz.underlying2 hval
  obtain ⟨fuel, hf⟩ := h
  obtain ⟨n2, e, _, hw⟩ := DataW.trod_int Tryz.underlying2 hf
  have : (Value.int .i64 n).cells.toList = [.int .i64 n] := rfl
  rw [this] at e
  injection e with e
  injection e with _ e
  subst e
  have h2 := (Lit.wf_int_iff _ _).1 hw
  have e1 : IntKind.i64.min = -9223372036854775808 := by decide
  have e2 : IntKind.i64.max = 9223372036854775807 := by decide
  rw [e1, e2] at h2
  exact ⟨n, rfl, h2.1, h2.2⟩
set_option maxRecDepth 100000 in
theorem again_int64 {H : Type} {enc : TypeId × Value → H} {W W' : World} {v : Value} {d : DataW H} {ps : List MemPlace} (h : DataW.Trod enc Tryz.prog W 0 (fun _ => true) true 2 v d ps) (hb : Below W.heap.size W W') (hlt : ∀ x ∈ ps, x.block < W.heap.size) :
    DataW.Trod enc Tryz.prog W' 0 (fun b => decide (b < W.heap.size)) true 2 v d ps := Below.trod Tryz.laidOut (by kernel_rfl) (of_decide_eq_true (by kernel_rfl)) h hb hlt

end Go.Proofs.YtclkinokmpcigaaGreatDoor
