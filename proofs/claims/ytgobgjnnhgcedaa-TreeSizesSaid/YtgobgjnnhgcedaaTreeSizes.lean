/-
  TreeSizes: the statement.
-/
import Derived.Test.YtgobgjnnhgcedaaOpen
import Derived.Test.YtgobgjnnhgcedaaLawSizes
set_option linter.unusedVariables false
set_option linter.unusedSimpArgs false
namespace Go.Proofs.Ytgobgjnnhgcedaa
open Go.ChangeShapes Go.WideShapes Go.ChangeAt Go.RowKit

set_option maxRecDepth 100000 in
/-- An argument that is a slice of values, opened. -/
theorem open_values {H : Type} {enc : TypeId × Value → H} {W : World} {sp : Nat → Bool} {base : Nat} {held : Bool} {v : Value} {d : DataW H} {ps : List MemPlace} {r : Reach} {b0 : Nat} (hval : Value.okWide Try.prog W r b0 22 v)
    (h : DataW.Trod enc Try.prog W base sp held 22 v d ps) (hs : SmallW Try.prog 22 d) : ∃ ts a cap cl, v = .slice a ts.length cap ∧ SliceV W (fun _ => True) ts a cap cl := by
  obtain ⟨a0, n0, c0, rfl⟩ := okWide_slice Try.underlying22 hval
  obtain ⟨fuel, hf⟩ := h
  obtain ⟨a, len, cap, cl, e, hle, hm, hb, hn, hsome, hE⟩ := slice_lift (p := fun c => ∃ t, Lies W (fun _ => True) t c.toArray) Try.underlying22 Try.cellsV (by omega) (c := .slice a0 n0 c0) hf hs (fun n' cs' y hlt hy hsy => lies_of_trod n' cs' y hy hsy)
  rw [Try.bytesV, reach_47] at hb
  unfold maxLen at hm
  obtain ⟨fl, hfl⟩ : ∃ fl : Nat → T, ∀ i, i < len → Lies W (fun _ => True) (fl i) (cl i).toArray := by
    have : ∀ i, ∃ t, i < len → Lies W (fun _ => True) t (cl i).toArray := fun i => by
      by_cases hi : i < len
      · obtain ⟨t, ht⟩ := (hE i hi).1; exact ⟨t, fun _ => ht⟩
      · exact ⟨T.mk 0 false 0 ⟨#[]⟩ [] [], fun q => absurd q hi⟩
    exact ⟨fun i => (this i).choose, fun i hi => (this i).choose_spec hi⟩
  have hlen : ((List.range len).map fl).length = len := by simp
  refine ⟨(List.range len).map fl, a, cap, fun i => (cl i).toArray, by rw [hlen]; exact e, ⟨⟨by omega, by omega, hn, fun hp => ?_, by omega⟩, fun i hi bl ol ea j hj => ?_, fun i hi => ?_⟩⟩
  · obtain ⟨bl, ol, e2⟩ := hsome (by omega)
    exact ⟨bl, ol, e2, trivial⟩
  · have hi2 : i < len := by omega
    have hj2 : j < (cl i).length := by simpa using hj
    have := (hE i hi2).2.2 bl ol ea j hj2
    rw [this]
    simp
  · have hi2 : i < len := by omega
    have : ((List.range len).map fl)[i] = fl i := by simp
    rw [this]
    exact hfl i hi2

set_option maxRecDepth 100000 in
theorem again_values {H : Type} {enc : TypeId × Value → H} {W W' : World} {v : Value} {d : DataW H} {ps : List MemPlace} (h : DataW.Trod enc Try.prog W 0 (fun _ => true) true 22 v d ps) (hb : Below W.heap.size W W') (hlt : ∀ x ∈ ps, x.block < W.heap.size) :
    DataW.Trod enc Try.prog W' 0 (fun b => decide (b < W.heap.size)) true 22 v d ps := Below.trod Try.laidOut (by kernel_rfl) (of_decide_eq_true (by kernel_rfl)) h hb hlt

set_option maxRecDepth 100000 in
theorem treeSizes_lifted (os : Os) (started : os.Started) (H : Type) (enc : TypeId × Value → H) :
    ReturnsInHanded {} Try.checked os 9 .any (Rows.treeSizesSpec.pre6 enc Try.prog Try.f9 Rows.treeSizesRow.domain false) (Rows.treeSizesSpec.post enc Try.prog Try.f9 false true false false) := by
  refine returnsInHanded_of_change_sized (C := Try.checked) Try.own started (by kernel_rfl) Try.func9
    (ChangeSpec.witness6 (enc := enc) (C := Try.checked) false ⟨#[], #[.slice none 0 0], []⟩ 8 (by kernel_rfl) (by kernel_rfl) (by kernel_rfl) (by kernel_rfl)) ?_
  intro W base args ds gs before hval0 hW hcnd _hsz0 _
  have hval : ∀ (j : Nat) t v, Try.f9.params[j]? = some t → args[j]? = some v → Value.okWide Try.prog W .any base t v := hval0
  have hsz : (DataW.weightsEach Try.prog (Try.f9.params.toList ++ Rows.treeSizesSpec.plain.varTypes Try.prog) (ds ++ gs)).all (· ≤ reachBytes) = true := _hsz0
  have hW' := hW
  obtain ⟨p, q, hA0, hV, rfl, hfz, hnd⟩ := hW
  have hA : DataW.TrodAll enc Try.prog W 0 (fun _ => true) true Try.f9.params.toList args.toList ds p := hA0
  rw [Try.params9] at hA hval hsz
  obtain ⟨v0, d0, rfl, rfl, h0⟩ := trodAll_one hA
  obtain ⟨rfl, rfl⟩ := trodVars_none hV
  clear hA0 hval0
  simp only [List.append_nil] at hW'
  have hsm0 : SmallW Try.prog 22 d0 := fun n hn => of_decide_eq_true (List.all_eq_true.1 hsz n (DataW.weights_mem_each (j := 0) (t := 22) rfl rfl n hn))
  obtain ⟨ts, a, cap, cl, rfl, hL0⟩ := open_values (hval 0 22 v0 rfl rfl) h0 hsm0
  have hlt : ∀ x ∈ p, x.block < W.heap.size := fun x hx => by have := hW'.lt x hx; exact this
  refine (treeSizes_any hL0 W (Below.refl _ _)).mono fun e W' ⟨he, hb⟩ => ?_
  subst he
  refine ⟨.bool true, rfl, ?_⟩
  have hres : DataW.TrodAll enc Try.prog W' W.heap.size (fun _ => false) false [4] [Value.bool true] [(.lit (.bool true) : DataW H)] [] := trodAll_mk1 (shut_bool Try.underlying4 _)
  have hargs := trodAll_mk1 (again_values h0 hb hlt)
  exact ⟨[d0], [], _, [], _, [], hW', hres, hargs, rfl, hb.frame _, fun h => by cases h⟩

theorem treeSizes_holds : Rows.TreeSizesSaid :=
  OpenClaim.holds_of_wide 9 Try.f9 rfl rfl rfl rfl rfl rfl rfl ⟨rfl, rfl, rfl, rfl, rfl⟩ rfl rfl rfl rfl rfl (by kernel_rfl) Try.func9 (by kernel_rfl)
    (of_decide_eq_true (by kernel_rfl)) (by unfold Func.isWrapper; first | (rw [if_pos (by decide +kernel)]; kernel_rfl) | (rw [if_neg (by decide +kernel)]; exact ⟨rfl, rfl⟩))
    (fun os started H enc _ => treeSizes_lifted os started H enc)

end Go.Proofs.Ytgobgjnnhgcedaa
