/-
  What every lifted proof of these laws needs.
-/
import Derived.Test.YtfhonjjhladddaaRows
import Derived.Test.YtfhonjjhladddaaLift
import Derived.ProofKit
import Derived.SizedLaws
set_option linter.unusedVariables false
set_option linter.unusedSimpArgs false
namespace Go.Proofs.Ytfhonjjhladddaa
open Go.ChangeShapes Go.WideShapes Go.ChangeAt Go.RowKit

theorem Try.own : ownKnob Try.prog.godebug = none := by kernel_rfl
theorem Try.laidOut : laidOutB Try.prog = true := by kernel_rfl

set_option maxRecDepth 100000 in
/-- An argument that is a value, opened. -/
theorem open_value {H : Type} {enc : TypeId × Value → H} {W : World} {sp : Nat → Bool} {base : Nat} {held : Bool} {v : Value} {d : DataW H} {ps : List MemPlace} {r : Reach} {b0 : Nat} (hval : Value.okWide Try.prog W r b0 25 v)
    (h : DataW.Trod enc Try.prog W base sp held 25 v d ps) (hs : SmallW Try.prog 25 d) : ∃ cs t, v = .agg cs ∧ Lies W (fun _ => True) t cs := by
  obtain ⟨cs, rfl, _⟩ := okWide_struct Try.underlying25 hval
  obtain ⟨fuel, hf⟩ := h
  obtain ⟨t, ht⟩ := lies_of_trod fuel _ _ hf hs
  have e : (Value.agg cs).cells.toList.toArray = cs := by show cs.toList.toArray = cs; exact Array.toArray_toList
  rw [e] at ht
  exact ⟨cs, t, rfl, ht⟩

/-- .. and read again behind the call. -/
theorem again_value {H : Type} {enc : TypeId × Value → H} {W W' : World} {v : Value} {d : DataW H} {ps : List MemPlace} (h : DataW.Trod enc Try.prog W 0 (fun _ => true) true 25 v d ps) (hb : Below W.heap.size W W') (hlt : ∀ x ∈ ps, x.block < W.heap.size) :
    DataW.Trod enc Try.prog W' 0 (fun b => decide (b < W.heap.size)) true 25 v d ps := Below.trod Try.laidOut (by kernel_rfl) (of_decide_eq_true (by kernel_rfl)) h hb hlt

def zeroCells : Array Value := #[.int .i64 0, .bool false, .int .i64 0, .string ⟨#[]⟩, .slice none 0 0, .slice none 0 0]


end Go.Proofs.Ytfhonjjhladddaa

/-
  Flat arguments of a lifted proof: a truth, a number, a text.
-/
set_option linter.unusedVariables false
set_option linter.unusedSimpArgs false
namespace Go.Proofs.Ytfhonjjhladddaa
open Go.ChangeShapes Go.WideShapes Go.ChangeAt Go.RowKit

set_option maxRecDepth 100000 in
theorem open_str {H : Type} {enc : TypeId × Value → H} {W : World} {sp : Nat → Bool} {base : Nat} {held : Bool} {v : Value} {d : DataW H} {ps : List MemPlace} {r : Reach} {b0 : Nat} (hval : Value.okWide Try.prog W r b0 9 v)
    (h : DataW.Trod enc Try.prog W base sp held 9 v d ps) (hs : SmallW Try.prog 9 d) : ∃ s : ByteArray, v = .string s ∧ s.size ≤ 140737488355328 := by
  obtain ⟨s, rfl⟩ := okWide_string Try.underlying9 hval
  obtain ⟨fuel, hf⟩ := h
  obtain ⟨s2, e, ex, _⟩ := DataW.trod_string Try.underlying9 hf
  refine ⟨s, rfl, ?_⟩
  have e2 : s2 = s := by
    have : (Value.string s).cells.toList = [.string s] := rfl
    rw [this] at e
    injection e with e
    injection e with e
    exact e.symm
  subst e2
  have ed : d = .lit (.string s2.data.toList) := by injection ex
  subst ed
  have h1 := small_string hs
  rw [reach_47] at h1
  have h2 : s2.size = s2.data.toList.length := rfl
  omega

set_option maxRecDepth 100000 in
theorem open_truth {W : World} {v : Value} {r : Reach} {b0 : Nat} (hval : Value.okWide Try.prog W r b0 4 v) : ∃ b, v = .bool b := okWide_bool Try.underlying4 hval

set_option maxRecDepth 100000 in
theorem open_number {H : Type} {enc : TypeId × Value → H} {W : World} {sp : Nat → Bool} {base : Nat} {held : Bool} {v : Value} {d : DataW H} {ps : List MemPlace} {r : Reach} {b0 : Nat} (hval : Value.okWide Try.prog W r b0 2 v)
    (h : DataW.Trod enc Try.prog W base sp held 2 v d ps) : ∃ n, v = .int .i64 n ∧ (Lit.int .i64 n).wf = true := by
  obtain ⟨n, rfl⟩ := okWide_int Try.underlying2 hval
  obtain ⟨fuel, hf⟩ := h
  obtain ⟨n2, e, _, hw⟩ := DataW.trod_int Try.underlying2 hf
  refine ⟨n, rfl, ?_⟩
  have : (Value.int .i64 n).cells.toList = [.int .i64 n] := rfl
  rw [this] at e
  injection e with e
  injection e with _ e
  rw [e]
  exact hw

set_option maxRecDepth 100000 in
theorem again_str {H : Type} {enc : TypeId × Value → H} {W W' : World} {v : Value} {d : DataW H} {ps : List MemPlace} (h : DataW.Trod enc Try.prog W 0 (fun _ => true) true 9 v d ps) (hb : Below W.heap.size W W') (hlt : ∀ x ∈ ps, x.block < W.heap.size) :
    DataW.Trod enc Try.prog W' 0 (fun b => decide (b < W.heap.size)) true 9 v d ps := Below.trod Try.laidOut (by kernel_rfl) (of_decide_eq_true (by kernel_rfl)) h hb hlt
set_option maxRecDepth 100000 in
theorem again_truth {H : Type} {enc : TypeId × Value → H} {W W' : World} {v : Value} {d : DataW H} {ps : List MemPlace} (h : DataW.Trod enc Try.prog W 0 (fun _ => true) true 4 v d ps) (hb : Below W.heap.size W W') (hlt : ∀ x ∈ ps, x.block < W.heap.size) :
    DataW.Trod enc Try.prog W' 0 (fun b => decide (b < W.heap.size)) true 4 v d ps := Below.trod Try.laidOut (by kernel_rfl) (of_decide_eq_true (by kernel_rfl)) h hb hlt
set_option maxRecDepth 100000 in
theorem again_number {H : Type} {enc : TypeId × Value → H} {W W' : World} {v : Value} {d : DataW H} {ps : List MemPlace} (h : DataW.Trod enc Try.prog W 0 (fun _ => true) true 2 v d ps) (hb : Below W.heap.size W W') (hlt : ∀ x ∈ ps, x.block < W.heap.size) :
    DataW.Trod enc Try.prog W' 0 (fun b => decide (b < W.heap.size)) true 2 v d ps := Below.trod Try.laidOut (by kernel_rfl) (of_decide_eq_true (by kernel_rfl)) h hb hlt

end Go.Proofs.Ytfhonjjhladddaa

/-
  A slice of texts as an argument.
-/
set_option linter.unusedVariables false
set_option linter.unusedSimpArgs false
namespace Go.Proofs.Ytfhonjjhladddaa
open Go.ChangeShapes Go.WideShapes Go.ChangeAt Go.RowKit

theorem Try.cellsStr : Try.prog.cellsOf 9 = 1 := by kernel_rfl
theorem Try.bytesStr : Try.prog.bytesOf 9 = 16 := by kernel_rfl

/-- A slice of texts. -/
structure SliceS (w : World) (ks : List ByteArray) (a : Option Addr) (cap : Nat) : Prop where
  le : ks.length ≤ cap
  big : ks.length * 16 ≤ 140737488355328
  ofNone : a = none → cap = 0
  ofSome : 0 < ks.length → ∃ b off, a = some ⟨b, off, none⟩
  max : cap ≤ 9223372036854775807
  cell : ∀ i (h : i < ks.length), ∀ b off, a = some ⟨b, off, none⟩ → w.cell? ⟨b, off + i, none⟩ = some (.string ks[i])
  sizes : ∀ i (h : i < ks.length), ks[i].size ≤ 140737488355328

set_option maxRecDepth 100000 in
theorem text_of {H : Type} {enc : TypeId × Value → H} {W : World} {sp : Nat → Bool} {base fuel : Nat} {held : Bool} {cs : List Value} {y : DataW H × List MemPlace} (h : DataW.trod enc Try.prog W base sp held fuel 9 cs = some y) (hs : SmallW Try.prog 9 y.1) :
    ∃ s : ByteArray, cs = [.string s] ∧ s.size ≤ 140737488355328 := by
  obtain ⟨s, e, ex, _⟩ := DataW.trod_string Try.underlying9 h
  refine ⟨s, e, ?_⟩
  have ed : y.1 = .lit (.string s.data.toList) := by rw [ex]
  rw [ed] at hs
  have h1 := small_string hs
  rw [reach_47] at h1
  have h2 : s.size = s.data.toList.length := rfl
  omega

set_option maxRecDepth 100000 in
theorem open_texts {H : Type} {enc : TypeId × Value → H} {W : World} {sp : Nat → Bool} {base : Nat} {held : Bool} {v : Value} {d : DataW H} {ps : List MemPlace} {r : Reach} {b0 : Nat} (hval : Value.okWide Try.prog W r b0 26 v)
    (h : DataW.Trod enc Try.prog W base sp held 26 v d ps) (hs : SmallW Try.prog 26 d) : ∃ ks a cap, v = .slice a ks.length cap ∧ SliceS W ks a cap := by
  obtain ⟨a0, n0, c0, rfl⟩ := okWide_slice Try.underlying26 hval
  obtain ⟨fuel, hf⟩ := h
  obtain ⟨a, len, cap, cl, e, hle, hm, hb, hn, hsome, hE⟩ := slice_lift (p := fun c => ∃ s : ByteArray, c = [.string s] ∧ s.size ≤ 140737488355328) Try.underlying26 Try.cellsStr (by omega) (c := .slice a0 n0 c0) hf hs (fun n' cs' y hlt hy hsy => text_of hy hsy)
  rw [Try.bytesStr, reach_47] at hb
  unfold maxLen at hm
  obtain ⟨fl, hfl⟩ : ∃ fl : Nat → ByteArray, ∀ i, i < len → cl i = [.string (fl i)] ∧ (fl i).size ≤ 140737488355328 := by
    have : ∀ i, ∃ t : ByteArray, i < len → cl i = [.string t] ∧ t.size ≤ 140737488355328 := fun i => by
      by_cases hi : i < len
      · obtain ⟨t, ht⟩ := (hE i hi).1; exact ⟨t, fun _ => ht⟩
      · exact ⟨⟨#[]⟩, fun q => absurd q hi⟩
    exact ⟨fun i => (this i).choose, fun i hi => (this i).choose_spec hi⟩
  have hlen : ((List.range len).map fl).length = len := by simp
  refine ⟨(List.range len).map fl, a, cap, by rw [hlen]; exact e, ⟨by omega, by omega, hn, fun hp => hsome (by omega), by omega, fun i hi bl ol ea => ?_, fun i hi => ?_⟩⟩
  · have hi2 : i < len := by omega
    obtain ⟨e1, _⟩ := hfl i hi2
    have := (hE i hi2).2.2 bl ol ea 0 (by rw [e1]; simp)
    rw [Nat.mul_one, Nat.add_zero] at this
    rw [this]
    simp [e1]
  · have hi2 : i < len := by omega
    have : ((List.range len).map fl)[i] = fl i := by simp
    rw [this]
    exact (hfl i hi2).2

set_option maxRecDepth 100000 in
theorem again_texts {H : Type} {enc : TypeId × Value → H} {W W' : World} {v : Value} {d : DataW H} {ps : List MemPlace} (h : DataW.Trod enc Try.prog W 0 (fun _ => true) true 26 v d ps) (hb : Below W.heap.size W W') (hlt : ∀ x ∈ ps, x.block < W.heap.size) :
    DataW.Trod enc Try.prog W' 0 (fun b => decide (b < W.heap.size)) true 26 v d ps := Below.trod Try.laidOut (by kernel_rfl) (of_decide_eq_true (by kernel_rfl)) h hb hlt

end Go.Proofs.Ytfhonjjhladddaa
