/-
  A slice of texts as an argument.
-/
import Derived.Test.YtfhonjjhladddaaLawLastM
import Derived.Test.YtfhonjjhladddaaTwo
import Derived.Test.YtfhonjjhladddaaDiff
set_option linter.unusedVariables false
set_option linter.unusedSimpArgs false
namespace Go.Proofs.Ytfhonjjhladddaa
open Go.ChangeShapes Go.WideShapes Go.ChangeAt Go.RowKit

theorem Try.cellsStr : Try.prog.cellsOf 9 = 1 := by kernel_rfl
theorem Try.bytesStr : Try.prog.bytesOf 9 = 16 := by kernel_rfl

/-- A slice of texts. -/
structure SliceS (w : World) (ks : List ByteArray) (a : Option Addr) (cap : Nat) : Prop where
  le : ks.length ≤ cap
  big : ks.length * 16 ≤ 140737488355328
  ofNone : a = none → cap = 0
  ofSome : 0 < ks.length → ∃ b off, a = some ⟨b, off, none⟩
  max : cap ≤ 9223372036854775807
  cell : ∀ i (h : i < ks.length), ∀ b off, a = some ⟨b, off, none⟩ → w.cell? ⟨b, off + i, none⟩ = some (.string ks[i])
  sizes : ∀ i (h : i < ks.length), ks[i].size ≤ 140737488355328

set_option maxRecDepth 100000 in
theorem text_of {H : Type} {enc : TypeId × Value → H} {W : World} {sp : Nat → Bool} {base fuel : Nat} {held : Bool} {cs : List Value} {y : DataW H × List MemPlace} (h : DataW.trod enc Try.prog W base sp held fuel 9 cs = some y) (hs : SmallW Try.prog 9 y.1) :
    ∃ s : ByteArray, cs = [.string s] ∧ s.size ≤ 140737488355328 := by
  obtain ⟨s, e, ex, _⟩ := DataW.trod_string Try.underlying9 h
  refine ⟨s, e, ?_⟩
  have ed : y.1 = .lit (.string s.data.toList) := by rw [ex]
  rw [ed] at hs
  have h1 := small_string hs
  rw [reach_47] at h1
  have h2 : s.size = s.data.toList.length := rfl
  omega

set_option maxRecDepth 100000 in
theorem open_texts {H : Type} {enc : TypeId × Value → H} {W : World} {sp : Nat → Bool} {base : Nat} {held : Bool} {v : Value} {d : DataW H} {ps : List MemPlace} {r : Reach} {b0 : Nat} (hval : Value.okWide Try.prog W r b0 26 v)
    (h : DataW.Trod enc Try.prog W base sp held 26 v d ps) (hs : SmallW Try.prog 26 d) : ∃ ks a cap, v = .slice a ks.length cap ∧ SliceS W ks a cap := by
  obtain ⟨a0, n0, c0, rfl⟩ := okWide_slice Try.underlying26 hval
  obtain ⟨fuel, hf⟩ := h
  obtain ⟨a, len, cap, cl, e, hle, hm, hb, hn, hsome, hE⟩ := slice_lift (p := fun c => ∃ s : ByteArray, c = [.string s] ∧ s.size ≤ 140737488355328) Try.underlying26 Try.cellsStr (by omega) (c := .slice a0 n0 c0) hf hs (fun n' cs' y hlt hy hsy => text_of hy hsy)
  rw [Try.bytesStr, reach_47] at hb
  unfold maxLen at hm
  obtain ⟨fl, hfl⟩ : ∃ fl : Nat → ByteArray, ∀ i, i < len → cl i = [.string (fl i)] ∧ (fl i).size ≤ 140737488355328 := by
    have : ∀ i, ∃ t : ByteArray, i < len → cl i = [.string t] ∧ t.size ≤ 140737488355328 := fun i => by
      by_cases hi : i < len
      · obtain ⟨t, ht⟩ := (hE i hi).1; exact ⟨t, fun _ => ht⟩
      · exact ⟨⟨#[]⟩, fun q => absurd q hi⟩
    exact ⟨fun i => (this i).choose, fun i hi => (this i).choose_spec hi⟩
  have hlen : ((List.range len).map fl).length = len := by simp
  refine ⟨(List.range len).map fl, a, cap, by rw [hlen]; exact e, ⟨by omega, by omega, hn, fun hp => hsome (by omega), by omega, fun i hi bl ol ea => ?_, fun i hi => ?_⟩⟩
  · have hi2 : i < len := by omega
    obtain ⟨e1, _⟩ := hfl i hi2
    have := (hE i hi2).2.2 bl ol ea 0 (by rw [e1]; simp)
    rw [Nat.mul_one, Nat.add_zero] at this
    rw [this]
    simp [e1]
  · have hi2 : i < len := by omega
    have : ((List.range len).map fl)[i] = fl i := by simp
    rw [this]
    exact (hfl i hi2).2

set_option maxRecDepth 100000 in
theorem again_texts {H : Type} {enc : TypeId × Value → H} {W W' : World} {v : Value} {d : DataW H} {ps : List MemPlace} (h : DataW.Trod enc Try.prog W 0 (fun _ => true) true 26 v d ps) (hb : Below W.heap.size W W') (hlt : ∀ x ∈ ps, x.block < W.heap.size) :
    DataW.Trod enc Try.prog W' 0 (fun b => decide (b < W.heap.size)) true 26 v d ps := Below.trod Try.laidOut (by kernel_rfl) (of_decide_eq_true (by kernel_rfl)) h hb hlt

end Go.Proofs.Ytfhonjjhladddaa

/-
  LayerMisses, walked.
-/
set_option linter.unusedVariables false
set_option linter.unusedSimpArgs false
namespace Go.Proofs.Ytfhonjjhladddaa
open Go.RowKit Go.Sort

def IsV' (cs : Array Value) (x : Value) (_ : World) : Prop := x = .agg cs
theorem isV'_later (cs : Array Value) : ∀ x w w', Below w.heap.size w w' → IsV' cs x w → IsV' cs x w' := fun _ _ _ _ h => h
/-- A slice of one value, in a block of its own. -/
def OneV (v : World) (cs : Array Value) (x : Value) (w : World) : Prop := ∃ w1 : World, Below v.heap.size v w1 ∧ x = .slice (some ⟨w1.heap.size, 0, none⟩) 1 1 ∧ Below (w1.alloc (.cells cs 25)).heap.size (w1.alloc (.cells cs 25)) w
theorem oneV_later (v : World) (cs : Array Value) : ∀ x w w', Below w.heap.size w w' → OneV v cs x w → OneV v cs x w' := fun _ _ _ hb ⟨w1, h1, h2, h3⟩ => ⟨w1, h1, h2, bstep h3 hb h3.size⟩

theorem misses_at {p q : T} (hp : Str p) (hq : Str q) (key : ByteArray) : (T.diff p q).get key = diffAt (p.get key) (q.get key) ∧ (diffAt (p.get key) (q.get key) = none ↔ p.get key = q.get key) := by
  obtain ⟨_, pa, pq⟩ := map_parts hp.parts hp.kind
  obtain ⟨_, qa, qq⟩ := map_parts hq.parts hq.kind
  constructor
  · rw [T.get_find, T.get_find, T.get_find]
    have e : (T.diff p q).pairs = diffR p.pairs q.pairs := by
      have hk := hq.kind
      obtain ⟨k, b, n, s, l, m⟩ := q
      obtain rfl : k = 5 := hk
      rw [diff_map p b n s l m hp.kind, pairs5, pairs5]
    rw [e]
    exact diffR_find key _ _ qa pa
  · rw [T.get_find, T.get_find]
    have h1 : ∀ y, findR key p.pairs = some y → y.parts = 0 ∧ T.over T.nil y = y := fun y h => by
      obtain ⟨r, hr, _, rfl⟩ := findR_mem h
      exact ⟨(pq r hr).2, (hp.pl r hr).2⟩
    have h2 : ∀ x, findR key q.pairs = some x → x.parts = 0 ∧ x.kind ≠ 0 ∧ T.over T.nil x = x := fun x h => by
      obtain ⟨r, hr, _, rfl⟩ := findR_mem h
      exact ⟨(qq r hr).2, (hq.pl r hr).1, (hq.pl r hr).2⟩
    exact same_at _ _ (fun y h => (h1 y h).1) (fun x h => ⟨(h2 x h).2.1, (h2 x h).1⟩) fun y x hy hx hy5 hx5 => (diff_main x y (h1 y hy).1 (h2 x hx).1 hy5 hx5 (Pl.of_plain (h1 y hy).2) (Pl.of_plain (h2 x hx).2.2)).2

end Go.Proofs.Ytfhonjjhladddaa
