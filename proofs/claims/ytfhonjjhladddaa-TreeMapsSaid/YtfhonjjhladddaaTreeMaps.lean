/-
  TreeMaps: for every two values, every key and every list of keys the law answers true: what any map has under any key, with another value there, and without it, are the document's; so is one made of any pairs. No condition but that the arguments can be read as data.
-/
import Derived.Test.YtfhonjjhladddaaOpenM
import Derived.Test.YtfhonjjhladddaaLawMaps
set_option linter.unusedVariables false
set_option linter.unusedSimpArgs false
namespace Go.Proofs.Ytfhonjjhladddaa
open Go.ChangeShapes Go.WideShapes Go.ChangeAt Go.RowKit

set_option maxRecDepth 100000 in
theorem treeMaps_lifted (os : Os) (started : os.Started) (H : Type) (enc : TypeId × Value → H) :
    ReturnsInHanded {} Try.checked os 3 .any (Rows.treeMapsSpec.pre6 enc Try.prog Try.f3 Rows.treeMapsRow.domain false) (Rows.treeMapsSpec.post enc Try.prog Try.f3 false true false false) := by
  refine returnsInHanded_of_change_sized (C := Try.checked) Try.own started (by kernel_rfl) Try.func3
    (ChangeSpec.witness6 (enc := enc) (C := Try.checked) false ⟨#[], #[.agg zeroCells, .agg zeroCells, .string ⟨#[]⟩, .slice none 0 0], []⟩ 8 (by kernel_rfl) (by kernel_rfl) (by kernel_rfl) (by kernel_rfl)) ?_
  intro W base args ds gs before hval0 hW hcnd _hsz0 _
  have hval : ∀ (j : Nat) t v, Try.f3.params[j]? = some t → args[j]? = some v → Value.okWide Try.prog W .any base t v := hval0
  have hsz : (DataW.weightsEach Try.prog (Try.f3.params.toList ++ Rows.treeMapsSpec.plain.varTypes Try.prog) (ds ++ gs)).all (· ≤ reachBytes) = true := _hsz0
  have hW' := hW
  obtain ⟨p, q, hA0, hV, rfl, hfz, hnd⟩ := hW
  have hA : DataW.TrodAll enc Try.prog W 0 (fun _ => true) true Try.f3.params.toList args.toList ds p := hA0
  rw [Try.params3] at hA hval hsz
  obtain ⟨v0, v1, v2, v3, d0, d1, d2, d3, p0, p1, p2, p3, rfl, rfl, rfl, h0, h1, h2, h3⟩ := trodAll_four hA
  obtain ⟨rfl, rfl⟩ := trodVars_none hV
  clear hA0 hval0
  simp only [List.append_nil] at hW'
  have hsm0 : SmallW Try.prog 25 d0 := fun n hn => of_decide_eq_true (List.all_eq_true.1 hsz n (DataW.weights_mem_each (j := 0) (t := 25) rfl rfl n hn))
  have hsm1 : SmallW Try.prog 25 d1 := fun n hn => of_decide_eq_true (List.all_eq_true.1 hsz n (DataW.weights_mem_each (j := 1) (t := 25) rfl rfl n hn))
  have hsm2 : SmallW Try.prog 9 d2 := fun n hn => of_decide_eq_true (List.all_eq_true.1 hsz n (DataW.weights_mem_each (j := 2) (t := 9) rfl rfl n hn))
  have hsm3 : SmallW Try.prog 26 d3 := fun n hn => of_decide_eq_true (List.all_eq_true.1 hsz n (DataW.weights_mem_each (j := 3) (t := 26) rfl rfl n hn))
  obtain ⟨cs, t, rfl, hL0⟩ := open_value (hval 0 25 v0 rfl rfl) h0 hsm0
  obtain ⟨ds', u, rfl, hL1⟩ := open_value (hval 1 25 v1 rfl rfl) h1 hsm1
  obtain ⟨key, rfl, hk2⟩ := open_str (hval 2 9 v2 rfl rfl) h2 hsm2
  obtain ⟨ks, ak, capk, rfl, hk3⟩ := open_texts (hval 3 26 v3 rfl rfl) h3 hsm3
  have hlt : ∀ x ∈ p0 ++ p1 ++ p2 ++ p3, x.block < W.heap.size := fun x hx => by have := hW'.lt x hx; exact this
  refine (treeMaps_any hL0 hL1 key hk2 hk3 W (Below.refl _ _)).mono fun e W' ⟨he, hb⟩ => ?_
  subst he
  refine ⟨.bool true, rfl, ?_⟩
  have hres : DataW.TrodAll enc Try.prog W' W.heap.size (fun _ => false) false [4] [Value.bool true] [(.lit (.bool true) : DataW H)] [] := trodAll_mk1 (shut_bool Try.underlying4 _)
  have hargs := trodAll_mk4 (again_value h0 hb (fun x hx => hlt x (by simp [hx]))) (again_value h1 hb (fun x hx => hlt x (by simp [hx]))) (again_str h2 hb (fun x hx => hlt x (by simp [hx]))) (again_texts h3 hb (fun x hx => hlt x (by simp [hx])))
  exact ⟨[d0, d1, d2, d3], [], _, [], _, [], hW', hres, hargs, rfl, hb.frame _, fun h => by cases h⟩

theorem treeMaps_holds : Rows.TreeMapsSaid :=
  OpenClaim.holds_of_wide 3 Try.f3 rfl rfl rfl rfl rfl rfl rfl ⟨rfl, rfl, rfl, rfl, rfl⟩ rfl rfl rfl rfl rfl (by kernel_rfl) Try.func3 (by kernel_rfl)
    (of_decide_eq_true (by kernel_rfl)) (by unfold Func.isWrapper; first | (rw [if_pos (by decide +kernel)]; kernel_rfl) | (rw [if_neg (by decide +kernel)]; exact ⟨rfl, rfl⟩))
    (fun os started H enc _ => treeMaps_lifted os started H enc)

end Go.Proofs.Ytfhonjjhladddaa
