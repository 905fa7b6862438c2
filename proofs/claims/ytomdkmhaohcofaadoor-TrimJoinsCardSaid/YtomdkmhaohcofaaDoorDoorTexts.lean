/-
  A slice of texts as an argument, in a seat without values.
-/
import Derived.Test.YtomdkmhaohcofaaDoorDoorOpen
set_option linter.unusedVariables false
set_option linter.unusedSimpArgs false
namespace Go.Proofs.YtomdkmhaohcofaaDoor
open Go.ChangeShapes Go.WideShapes Go.ChangeAt Go.RowKit

theorem cells?_get {w : World} {base : Nat} {a : Addr} {n : Nat} {cs : List Value} (h : w.cells? base a n = some cs) : cs.length = n ∧ ∀ j (p : j < cs.length), w.cell? (a.add j) = some cs[j] := by
  obtain ⟨_, hl, hj⟩ := World.cells?_some h
  exact ⟨hl, fun j p => by rw [hj j (by omega), List.getElem?_eq_getElem p]⟩

theorem cell_spot {w : World} {a : Addr} {v : Value} (h : w.cell? a = some v) : a.spot = none := by
  unfold World.cell? at h
  split at h
  · split at h
    · cases h
    · rename_i h1; simpa using h1
  · cases h

section
variable {H : Type} {enc : TypeId × Value → H} {w : World} {base : Nat} {sp : Nat → Bool} {held : Bool}

theorem weights_all {P : Program} {e : TypeId} : ∀ {ds : List (DataW H)} {d : DataW H}, d ∈ ds → ∀ n ∈ d.weights P e, n ∈ DataW.weightsAll P e ds
  | d0 :: r, d, hd, n, hn => by
    rw [DataW.weightsAll, List.mem_append]
    rcases List.mem_cons.1 hd with rfl | h
    · exact .inl hn
    · exact .inr (weights_all h n hn)


/-- A slice, read: each element by what is known of elements. -/
theorem slice_lift {e t : TypeId} {s : Nat} {fuel : Nat} {c : Value} {x : DataW H × List MemPlace} {p : List Value → Prop} (hu : Tryd.prog.underlying t = some (.slice e)) (hs : Tryd.prog.cellsOf e = s) (h0 : 0 < s) (h : DataW.trod enc Tryd.prog w base sp held fuel t [c] = some x) (hw : SmallW Tryd.prog t x.1)
    (ih : ∀ (n : Nat) (cs : List Value) (y : DataW H × List MemPlace), n < fuel → DataW.trod enc Tryd.prog w base sp held n e cs = some y → SmallW Tryd.prog e y.1 → p cs) :
    ∃ (a : Option Addr) (len cap : Nat) (cl : Nat → List Value), c = .slice a len cap ∧ len ≤ cap ∧ cap ≤ maxLen ∧ len * Tryd.prog.bytesOf e ≤ reachBytes ∧ (a = none → cap = 0) ∧ (0 < len → ∃ bl ol, a = some ⟨bl, ol, none⟩) ∧
      ∀ i, i < len → p (cl i) ∧ (cl i).length = s ∧ ∀ bl ol, a = some ⟨bl, ol, none⟩ → ∀ j (q : j < (cl i).length), w.cell? ⟨bl, ol + i * s + j, none⟩ = some (cl i)[j] := by
  rcases DataW.trod_slice hu h with ⟨hc, hx⟩ | ⟨a, len, cap, elems, rest, n, rfl, hc, rfl, hb, hle, hm, hel, hei, _, _⟩
  · obtain rfl : c = .slice none 0 0 := by simpa using hc
    exact ⟨none, 0, 0, fun _ => [], rfl, Nat.le_refl _, Nat.zero_le _, by simp, fun _ => rfl, fun q => absurd q (by omega), fun i q => absurd q (by omega)⟩
  · obtain rfl : c = .slice (some a) len cap := by simpa using hc
    have hbytes : len * Tryd.prog.bytesOf e ≤ reachBytes := by
      have := hw ((elems.length + rest.length) * Tryd.prog.bytesOf e) (by simp [DataW.weights, hu])
      rw [← hel]
      exact Nat.le_trans (Nat.mul_le_mul_right _ (Nat.le_add_right _ _)) this
    have hE : ∀ i, ∃ ci : List Value, i < len → p ci ∧ ci.length = s ∧ ∀ j (q : j < ci.length), w.cell? ((a.add (i * s)).add j) = some ci[j] := fun i => by
      by_cases hi : i < len
      · have hi2 : i < elems.length := by omega
        have h1 := hei i hi
        rw [hs, List.getElem?_eq_getElem hi2] at h1
        obtain ⟨ci, hci, ht⟩ := Option.bind_eq_some_iff.1 h1
        have hw2 : SmallW Tryd.prog e elems[i].1 := fun m hm' => hw m (by
          simp only [DataW.weights, hu, List.mem_cons, List.mem_append]
          exact .inr (.inl (weights_all (List.mem_map.2 ⟨_, List.getElem_mem hi2, rfl⟩) m hm')))
        exact ⟨ci, fun _ => ⟨ih n ci _ (Nat.lt_succ_self _) ht hw2, (cells?_get hci).1, (cells?_get hci).2⟩⟩
      · exact ⟨[], fun q => absurd q hi⟩
    obtain ⟨cl, hcl⟩ := Classical.axiomOfChoice hE
    have hspot : 0 < len → a.spot = none := fun hp => by
      obtain ⟨_, hl, hj⟩ := hcl 0 hp
      have := cell_spot (hj 0 (by omega))
      simpa [Addr.add] using this
    refine ⟨some a, len, cap, cl, rfl, hle, hm, hbytes, by simp, fun hp => ⟨a.block, a.off, ?_⟩, fun i hi => ⟨(hcl i hi).1, (hcl i hi).2.1, fun bl ol ea j q => ?_⟩⟩
    · have := hspot hp
      obtain ⟨b, o, sp'⟩ := a
      simp only at this
      subst this
      rfl
    · obtain rfl : a = ⟨bl, ol, none⟩ := by simpa using ea
      have := (hcl i hi).2.2 j q
      rw [Addr.add_lit, Addr.add_lit] at this
      exact this

end

theorem Tryd.cellsStr : Tryd.prog.cellsOf 9 = 1 := by kernel_rfl
theorem Tryd.bytesStr : Tryd.prog.bytesOf 9 = 16 := by kernel_rfl

/-- A slice of texts. -/
structure SliceS (w : World) (ks : List ByteArray) (a : Option Addr) (cap : Nat) : Prop where
  le : ks.length ≤ cap
  big : ks.length * 16 ≤ 140737488355328
  ofNone : a = none → cap = 0
  ofSome : 0 < ks.length → ∃ b off, a = some ⟨b, off, none⟩
  max : cap ≤ 9223372036854775807
  cell : ∀ i (h : i < ks.length), ∀ b off, a = some ⟨b, off, none⟩ → w.cell? ⟨b, off + i, none⟩ = some (.string ks[i])
  sizes : ∀ i (h : i < ks.length), ks[i].size ≤ 140737488355328

set_option maxRecDepth 100000 in
theorem text_of {H : Type} {enc : TypeId × Value → H} {W : World} {sp : Nat → Bool} {base fuel : Nat} {held : Bool} {cs : List Value} {y : DataW H × List MemPlace} (h : DataW.trod enc Tryd.prog W base sp held fuel 9 cs = some y) (hs : SmallW Tryd.prog 9 y.1) :
    ∃ s : ByteArray, cs = [.string s] ∧ s.size ≤ 140737488355328 := by
  obtain ⟨s, e, ex, _⟩ := DataW.trod_string Tryd.underlying9 h
  refine ⟨s, e, ?_⟩
  have ed : y.1 = .lit (.string s.data.toList) := by rw [ex]
  rw [ed] at hs
  have h1 := small_text hs
  rw [reach_two47] at h1
  have h2 : s.size = s.data.toList.length := rfl
  omega

set_option maxRecDepth 100000 in
theorem open_texts {H : Type} {enc : TypeId × Value → H} {W : World} {sp : Nat → Bool} {base : Nat} {held : Bool} {v : Value} {d : DataW H} {ps : List MemPlace} {r : Reach} {b0 : Nat} (hval : Value.okWide Tryd.prog W r b0 32 v)
    (h : DataW.Trod enc Tryd.prog W base sp held 32 v d ps) (hs : SmallW Tryd.prog 32 d) : ∃ ks a cap, v = .slice a ks.length cap ∧ SliceS W ks a cap := by
  obtain ⟨a0, n0, c0, rfl⟩ := okWide_slice Tryd.underlying32 hval
  obtain ⟨fuel, hf⟩ := h
  obtain ⟨a, len, cap, cl, e, hle, hm, hb, hn, hsome, hE⟩ := slice_lift (p := fun c => ∃ s : ByteArray, c = [.string s] ∧ s.size ≤ 140737488355328) Tryd.underlying32 Tryd.cellsStr (by omega) (c := .slice a0 n0 c0) hf hs (fun n' cs' y hlt hy hsy => text_of hy hsy)
  rw [Tryd.bytesStr, reach_two47] at hb
  unfold maxLen at hm
  obtain ⟨fl, hfl⟩ : ∃ fl : Nat → ByteArray, ∀ i, i < len → cl i = [.string (fl i)] ∧ (fl i).size ≤ 140737488355328 := by
    have : ∀ i, ∃ t : ByteArray, i < len → cl i = [.string t] ∧ t.size ≤ 140737488355328 := fun i => by
      by_cases hi : i < len
      · obtain ⟨t, ht⟩ := (hE i hi).1; exact ⟨t, fun _ => ht⟩
      · exact ⟨⟨#[]⟩, fun q => absurd q hi⟩
    exact ⟨fun i => (this i).choose, fun i hi => (this i).choose_spec hi⟩
  have hlen : ((List.range len).map fl).length = len := by simp
  refine ⟨(List.range len).map fl, a, cap, by rw [hlen]; exact e, ⟨by omega, by omega, hn, fun hp => hsome (by omega), by omega, fun i hi bl ol ea => ?_, fun i hi => ?_⟩⟩
  · have hi2 : i < len := by omega
    obtain ⟨e1, _⟩ := hfl i hi2
    have := (hE i hi2).2.2 bl ol ea 0 (by rw [e1]; simp)
    rw [Nat.mul_one, Nat.add_zero] at this
    rw [this]
    simp [e1]
  · have hi2 : i < len := by omega
    have : ((List.range len).map fl)[i] = fl i := by simp
    rw [this]
    exact (hfl i hi2).2

set_option maxRecDepth 100000 in
theorem again_texts {H : Type} {enc : TypeId × Value → H} {W W' : World} {v : Value} {d : DataW H} {ps : List MemPlace} (h : DataW.Trod enc Tryd.prog W 0 (fun _ => true) true 32 v d ps) (hb : Below W.heap.size W W') (hlt : ∀ x ∈ ps, x.block < W.heap.size) :
    DataW.Trod enc Tryd.prog W' 0 (fun b => decide (b < W.heap.size)) true 32 v d ps := Below.trod Tryd.laidOut (by kernel_rfl) (of_decide_eq_true (by kernel_rfl)) h hb hlt

end Go.Proofs.YtomdkmhaohcofaaDoor
