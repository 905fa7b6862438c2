/-
  FuncsTruths of mizzenlaw08: for every three values the law returns true, and all three read as before. The card ties the variables that the row lists, the table of functions among them, to the program's text.
-/
import Derived.Test.YtkonkjaabkmecaaGreatDoorOpen
import Derived.Test.YtkonkjaabkmecaaGreatDoorDoorWrap
import Derived.Test.YtkonkjaabkmecaaGreatDoorFnLaid
import Derived.Test.YtkonkjaabkmecaaGreatDoorLawTruths
set_option linter.unusedVariables false
set_option linter.unusedSimpArgs false
namespace Go.Proofs.YtkonkjaabkmecaaGreatDoor
open Go.ChangeShapes Go.WideShapes Go.ChangeAt Go.RowKit

set_option maxRecDepth 100000 in
theorem funcsTruths_lifted (os : Os) (started : os.Started) (H : Type) (enc : TypeId × Value → H) :
    ReturnsInHanded {} Tryz.checked os 9 .any (fun w args => (Rows.funcsTruthsSpec.pre enc Tryz.prog Tryz.f9 Rows.funcsTruthsRow.domain false w args ∧ laidMetH Tryz.prog Rows.funcsTruthsRow.laid w) ∧ sizedMet enc Tryz.prog Tryz.f9 (OpenSpec.ofChange Rows.funcsTruthsSpec) false w args)
      (Rows.funcsTruthsSpec.post enc Tryz.prog Tryz.f9 false true false false) := by
  refine returns_laid_shaped (C := Tryz.checked) (X := fun w _ => laidMetH Tryz.prog Rows.funcsTruthsRow.laid w) (fun _ _ _ hh h => h.of_heap hh) Tryz.own started (by kernel_rfl) Tryz.func9
    (ChangeSpec.witness_shaped (enc := enc) (C := Tryz.checked) (os := os) (X := fun w _ => laidMetH Tryz.prog Rows.funcsTruthsRow.laid w) false (World.laidAll Tryz.prog os Rows.funcsTruthsRow.laid) #[.agg zeroCells, .agg zeroCells, .agg zeroCells] 8 (World.laidAll_os _ _ _)
      (World.shaped_of_ZipB (by kernel_rfl) (by kernel_rfl)) (by kernel_rfl) (by kernel_rfl) (by kernel_rfl)
      (by rw [MakeChecks.laidMetH_plain _ _ _ (by kernel_rfl)]; exact laidMet_laidAll _ (by kernel_rfl) (by kernel_rfl))) ?_
  intro W base args ds gs before hval0 hW _hsz0 hlaid hsh
  have hval : ∀ (j : Nat) t v, Tryz.f9.params[j]? = some t → args[j]? = some v → Value.okWide Tryz.prog W .any base t v := hval0
  have hsz : (DataW.weightsEach Tryz.prog (Tryz.f9.params.toList ++ Rows.funcsTruthsSpec.plain.varTypes Tryz.prog) (ds ++ gs)).all (· ≤ reachBytes) = true := _hsz0
  have hW' := hW
  obtain ⟨p, q, hA0, hV, rfl, hfz, hnd⟩ := hW
  have hA : DataW.TrodAll enc Tryz.prog W 0 (fun _ => true) true Tryz.f9.params.toList args.toList ds p := hA0
  rw [Tryz.params9] at hA hval hsz
  obtain ⟨v0, v1, v2, d0, d1, d2, p0, p1, p2, rfl, rfl, rfl, h0, h1, h2⟩ := trodAll_three hA
  obtain ⟨rfl, rfl⟩ := trodVars_none hV
  clear hA0 hval0
  simp only [List.append_nil] at hW'
  have hsm0 : SmallW Tryz.prog 27 d0 := fun n hn => of_decide_eq_true (List.all_eq_true.1 hsz n (DataW.weights_mem_each (j := 0) (t := 27) rfl rfl n hn))
  have hsm1 : SmallW Tryz.prog 27 d1 := fun n hn => of_decide_eq_true (List.all_eq_true.1 hsz n (DataW.weights_mem_each (j := 1) (t := 27) rfl rfl n hn))
  have hsm2 : SmallW Tryz.prog 27 d2 := fun n hn => of_decide_eq_true (List.all_eq_true.1 hsz n (DataW.weights_mem_each (j := 2) (t := 27) rfl rfl n hn))
  obtain ⟨cs0, t0, rfl, hL0⟩ := open_value (hval 0 27 v0 rfl rfl) h0 hsm0
  obtain ⟨cs1, t1, rfl, hL1⟩ := open_value (hval 1 27 v1 rfl rfl) h1 hsm1
  obtain ⟨cs2, t2, rfl, hL2⟩ := open_value (hval 2 27 v2 rfl rfl) h2 hsm2
  have hlt : ∀ x ∈ p0 ++ p1 ++ p2, x.block < W.heap.size := fun x hx => by have := hW'.lt x hx; exact this
  have hfn : FnTab W := fn_of_laid (by have := hlaid; rw [MakeChecks.laidMetH_plain _ _ _ (by kernel_rfl)] at this; exact this)
  refine (funcsTruths_any hL0 hL1 hL2 hfn).mono fun e W' ⟨he, hb⟩ => ?_
  subst he
  refine ⟨.bool true, rfl, ?_⟩
  have hres : DataW.TrodAll enc Tryz.prog W' W.heap.size (fun _ => false) false [4] [Value.bool true] [(.lit (.bool true) : DataW H)] [] := trodAll_mk1 (shut_bool Tryz.underlying4 _)
  have hargs := trodAll_mk3 (again_value h0 hb (fun x hx => hlt x (by simp [hx]))) (again_value h1 hb (fun x hx => hlt x (by simp [hx]))) (again_value h2 hb (fun x hx => hlt x (by simp [hx])))
  exact ⟨[d0, d1, d2], [], _, [], _, [], hW', hres, hargs, rfl, hb.frame _, fun h => by cases h⟩

theorem funcsTruths_row : Rows.FuncsTruthsSaid :=
  OpenClaim.holds_of_wide 9 Tryz.f9 rfl rfl rfl rfl rfl rfl rfl ⟨rfl, rfl, rfl, rfl, rfl⟩ rfl rfl rfl rfl rfl (by kernel_rfl) Tryz.func9 (by kernel_rfl)
    (of_decide_eq_true (by kernel_rfl)) (by unfold Func.isWrapper; first | (rw [if_pos (by decide +kernel)]; kernel_rfl) | (rw [if_neg (by decide +kernel)]; exact ⟨rfl, rfl⟩))
    (fun os started H enc _ => funcsTruths_lifted os started H enc)

theorem funcsTruths_holds : Rows.FuncsTruthsCardSaid :=
  Claim7.holds_tied_plain_at .later [] [.data, .data, .data, .data, .sentinel, .sentinel, .data, .pinned] true Rows.funcsTruthsCard.stood.harness true
    funcsTruths_row (fun _ h => by cases h) (by kernel_rfl) (fun _ h => by cases h) funcsTruths_row_tie rfl ⟨rfl, rfl⟩ (by kernel_rfl) rfl
    (fun f fn hf hfn => by
      obtain rfl : f = 9 := Option.some.inj ((show Tryz.prog.funcNamed "mizzen/mizzenlaw08.FuncsTruths" = some 9 by kernel_rfl).symm.trans hf) |>.symm
      obtain rfl : fn = Tryz.f9 := (Option.some.inj (Tryz.func9.symm.trans hfn)).symm
      exact ⟨by kernel_rfl, fun j t ht => by
        rw [Tryz.params9] at ht
        have hm : t ∈ [27, 27, 27] := by simpa using Array.mem_of_getElem? ht
        have hall : ([27, 27, 27].all fun u => !Tryz.prog.wantsStandIn u) = true := by kernel_rfl
        exact (show Tryz.prog.wantsStandIn t = false by simpa using List.all_eq_true.1 hall t hm)⟩)
    (by kernel_rfl)

end Go.Proofs.YtkonkjaabkmecaaGreatDoor
