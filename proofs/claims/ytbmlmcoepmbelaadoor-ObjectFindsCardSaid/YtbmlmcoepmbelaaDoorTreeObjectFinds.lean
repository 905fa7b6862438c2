/-
  Whatever slice of objects comes in, ObjectFinds answers true, and it reads behind the call as it read before: for any slice of objects, where the table of ranks reads as the program lays it.
-/
import Derived.Test.YtbmlmcoepmbelaaDoorOpenM
import Derived.Test.YtbmlmcoepmbelaaDoorLift
import Derived.Test.YtbmlmcoepmbelaaDoorObjOpen
import Derived.Test.YtbmlmcoepmbelaaDoorObjOpenLM
import Derived.Test.YtbmlmcoepmbelaaDoorLawObjFinds
set_option linter.unusedVariables false
set_option linter.unusedSimpArgs false
namespace Go.Proofs.YtbmlmcoepmbelaaDoor
open Go.ChangeShapes Go.WideShapes Go.ChangeAt Go.RowKit

set_option maxRecDepth 100000 in
theorem objectFinds_lifted (os : Os) (started : os.Started) (H : Type) (enc : TypeId × Value → H) :
    ReturnsInHanded {} Tryd.checked os 5 .any (fun w args => (Rows.objectFindsSpec.pre enc Tryd.prog Tryd.f5 Rows.objectFindsRow.domain false w args ∧ laidMetH Tryd.prog Rows.objectFindsRow.laid w) ∧ sizedMet enc Tryd.prog Tryd.f5 (OpenSpec.ofChange Rows.objectFindsSpec) false w args)
      (Rows.objectFindsSpec.post enc Tryd.prog Tryd.f5 false true false false) := by
  refine returns_laid_shaped (C := Tryd.checked) (X := fun w _ => laidMetH Tryd.prog Rows.objectFindsRow.laid w) (fun _ _ _ hh h => h.of_heap hh) Tryd.own started (by kernel_rfl) Tryd.func5
    (ChangeSpec.witness_shaped (enc := enc) (C := Tryd.checked) (os := os) (X := fun w _ => laidMetH Tryd.prog Rows.objectFindsRow.laid w) false (World.laidAll Tryd.prog os Rows.objectFindsRow.laid) #[.slice none 0 0] 8 (World.laidAll_os _ _ _)
      (World.shaped_of_ZipB (by kernel_rfl) (by kernel_rfl)) (by kernel_rfl) (by kernel_rfl) (by kernel_rfl)
      (by rw [MakeChecks.laidMetH_plain _ _ _ (by kernel_rfl)]; exact laidMet_laidAll _ (by kernel_rfl) (by kernel_rfl))) ?_
  intro W base args ds gs before hval0 hW _hsz0 hlaid hsh
  have hval : ∀ (j : Nat) t v, Tryd.f5.params[j]? = some t → args[j]? = some v → Value.okWide Tryd.prog W .any base t v := hval0
  have hsz : (DataW.weightsEach Tryd.prog (Tryd.f5.params.toList ++ Rows.objectFindsSpec.plain.varTypes Tryd.prog) (ds ++ gs)).all (· ≤ reachBytes) = true := _hsz0
  have hW' := hW
  obtain ⟨p, q, hA0, hV, rfl, hfz, hnd⟩ := hW
  have hA : DataW.TrodAll enc Tryd.prog W 0 (fun _ => true) true Tryd.f5.params.toList args.toList ds p := hA0
  rw [Tryd.params5] at hA hval hsz
  obtain ⟨v0, d0, rfl, rfl, h0⟩ := trodAll_one hA
  obtain ⟨rfl, rfl⟩ := trodVars_none hV
  clear hA0 hval0
  simp only [List.append_nil] at hW'
  have hsm0 : SmallW Tryd.prog 47 d0 := fun n hn => of_decide_eq_true (List.all_eq_true.1 hsz n (DataW.weights_mem_each (j := 0) (t := 47) rfl rfl n hn))
  obtain ⟨ob0, oa0, oc0, rfl, hO0⟩ := open_objects (hval 0 47 v0 rfl rfl) h0 hsm0
  have hlt : ∀ x ∈ p, x.block < W.heap.size := fun x hx => by have := hW'.lt x hx; exact this
  rw [MakeChecks.laidMetH_plain _ _ _ (by kernel_rfl)] at hlaid
  have hrank : RankTab W := rank_of_laid0 hlaid
  refine (objectFinds_any hO0 hrank).mono fun e W' ⟨he, hb⟩ => ?_
  subst he
  refine ⟨.bool true, rfl, ?_⟩
  have hres : DataW.TrodAll enc Tryd.prog W' W.heap.size (fun _ => false) false [4] [Value.bool true] [(.lit (.bool true) : DataW H)] [] := trodAll_mk1 (shut_bool Tryd.underlying4 _)
  have hargs := trodAll_mk1 (again_objects h0 hb (fun x hx => hlt x (by simp [hx])))
  exact ⟨[d0], [], _, [], _, [], hW', hres, hargs, rfl, hb.frame _, fun h => by cases h⟩

theorem objectFinds_row : Rows.ObjectFindsSaid :=
  OpenClaim.holds_of_wide 5 Tryd.f5 rfl rfl rfl rfl rfl rfl rfl ⟨rfl, rfl, rfl, rfl, rfl⟩ rfl rfl rfl rfl rfl (by kernel_rfl) Tryd.func5 (by kernel_rfl)
    (of_decide_eq_true (by kernel_rfl)) (by unfold Func.isWrapper; first | (rw [if_pos (by decide +kernel)]; kernel_rfl) | (rw [if_neg (by decide +kernel)]; exact ⟨rfl, rfl⟩))
    (fun os started H enc _ => objectFinds_lifted os started H enc)

theorem objectFinds_holds : Rows.ObjectFindsCardSaid :=
  Claim7.holds_tied_plain_at .later [] [.data] true Rows.objectFindsCard.stood.harness false
    objectFinds_row (fun _ h => by cases h) (by kernel_rfl) (fun _ h => by cases h) objectFinds_row_tie rfl ⟨rfl, rfl⟩ (by kernel_rfl) rfl
    (fun f fn hf hfn => by
      obtain rfl : f = 5 := Option.some.inj ((show Tryd.prog.funcNamed "mizzen/mizzenlaw12.ObjectFinds" = some 5 by kernel_rfl).symm.trans hf) |>.symm
      obtain rfl : fn = Tryd.f5 := (Option.some.inj (Tryd.func5.symm.trans hfn)).symm
      exact ⟨by kernel_rfl, fun j t ht => by
        rw [Tryd.params5] at ht
        have hm : t ∈ [47] := by simpa using Array.mem_of_getElem? ht
        have hall : ([47].all fun u => !Tryd.prog.wantsStandIn u) = true := by kernel_rfl
        exact (show Tryd.prog.wantsStandIn t = false by simpa using List.all_eq_true.1 hall t hm)⟩)
    (by kernel_rfl)

end Go.Proofs.YtbmlmcoepmbelaaDoor
