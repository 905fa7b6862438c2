/-
  FuncsSums of mizzenlaw08: for every two whole numbers the law returns true, and both read as before. The card ties the variables that the row lists, the table of functions among them, to the program's text.
-/
import Derived.Test.YtkonkjaabkmecaaGreatDoorDoorOpen
import Derived.Test.YtkonkjaabkmecaaGreatDoorFnLaid
import Derived.Test.YtkonkjaabkmecaaGreatDoorLawSums
set_option linter.unusedVariables false
set_option linter.unusedSimpArgs false
namespace Go.Proofs.YtkonkjaabkmecaaGreatDoor
open Go.ChangeShapes Go.WideShapes Go.ChangeAt Go.RowKit

set_option maxRecDepth 100000 in
theorem funcsSums_lifted (os : Os) (started : os.Started) (H : Type) (enc : TypeId × Value → H) :
    ReturnsInHanded {} Tryz.checked os 6 .any (fun w args => (Rows.funcsSumsSpec.pre enc Tryz.prog Tryz.f6 Rows.funcsSumsRow.domain false w args ∧ laidMetH Tryz.prog Rows.funcsSumsRow.laid w) ∧ sizedMet enc Tryz.prog Tryz.f6 (OpenSpec.ofChange Rows.funcsSumsSpec) false w args)
      (Rows.funcsSumsSpec.post enc Tryz.prog Tryz.f6 false true false false) := by
  refine returns_laid_shaped (C := Tryz.checked) (X := fun w _ => laidMetH Tryz.prog Rows.funcsSumsRow.laid w) (fun _ _ _ hh h => h.of_heap hh) Tryz.own started (by kernel_rfl) Tryz.func6
    (ChangeSpec.witness_shaped (enc := enc) (C := Tryz.checked) (os := os) (X := fun w _ => laidMetH Tryz.prog Rows.funcsSumsRow.laid w) false (World.laidAll Tryz.prog os Rows.funcsSumsRow.laid) #[.int .i64 0, .int .i64 0] 8 (World.laidAll_os _ _ _)
      (World.shaped_of_ZipB (by kernel_rfl) (by kernel_rfl)) (by kernel_rfl) (by kernel_rfl) (by kernel_rfl)
      (by rw [MakeChecks.laidMetH_plain _ _ _ (by kernel_rfl)]; exact laidMet_laidAll _ (by kernel_rfl) (by kernel_rfl))) ?_
  intro W base args ds gs before hval0 hW _hsz0 hlaid hsh
  have hval : ∀ (j : Nat) t v, Tryz.f6.params[j]? = some t → args[j]? = some v → Value.okWide Tryz.prog W .any base t v := hval0
  have hsz : (DataW.weightsEach Tryz.prog (Tryz.f6.params.toList ++ Rows.funcsSumsSpec.plain.varTypes Tryz.prog) (ds ++ gs)).all (· ≤ reachBytes) = true := _hsz0
  have hW' := hW
  obtain ⟨p, q, hA0, hV, rfl, hfz, hnd⟩ := hW
  have hA : DataW.TrodAll enc Tryz.prog W 0 (fun _ => true) true Tryz.f6.params.toList args.toList ds p := hA0
  rw [Tryz.params6] at hA hval hsz
  obtain ⟨v0, v1, d0, d1, p0, p1, rfl, rfl, rfl, h0, h1⟩ := trodAll_two hA
  obtain ⟨rfl, rfl⟩ := trodVars_none hV
  clear hA0 hval0
  simp only [List.append_nil] at hW'
  obtain ⟨n0, rfl, hn0a, hn0b⟩ := open_int64 (hval 0 2 v0 rfl rfl) h0
  obtain ⟨n1, rfl, hn1a, hn1b⟩ := open_int64 (hval 1 2 v1 rfl rfl) h1
  have hlt : ∀ x ∈ p0 ++ p1, x.block < W.heap.size := fun x hx => by have := hW'.lt x hx; exact this
  have hfn : FnTab W := fn_of_laid (by have := hlaid; rw [MakeChecks.laidMetH_plain _ _ _ (by kernel_rfl)] at this; exact this)
  refine (funcsSums_any n0 n1 hn0a hn0b hn1a hn1b W hfn).mono fun e W' ⟨he, hb⟩ => ?_
  subst he
  refine ⟨.bool true, rfl, ?_⟩
  have hres : DataW.TrodAll enc Tryz.prog W' W.heap.size (fun _ => false) false [4] [Value.bool true] [(.lit (.bool true) : DataW H)] [] := trodAll_mk1 (shut_bool Tryz.underlying4 _)
  have hargs := trodAll_mk2 (again_int64 h0 hb (fun x hx => hlt x (by simp [hx]))) (again_int64 h1 hb (fun x hx => hlt x (by simp [hx])))
  exact ⟨[d0, d1], [], _, [], _, [], hW', hres, hargs, rfl, hb.frame _, fun h => by cases h⟩

theorem funcsSums_row : Rows.FuncsSumsSaid :=
  OpenClaim.holds_of_wide 6 Tryz.f6 rfl rfl rfl rfl rfl rfl rfl ⟨rfl, rfl, rfl, rfl, rfl⟩ rfl rfl rfl rfl rfl (by kernel_rfl) Tryz.func6 (by kernel_rfl)
    (of_decide_eq_true (by kernel_rfl)) (by unfold Func.isWrapper; first | (rw [if_pos (by decide +kernel)]; kernel_rfl) | (rw [if_neg (by decide +kernel)]; exact ⟨rfl, rfl⟩))
    (fun os started H enc _ => funcsSums_lifted os started H enc)

theorem funcsSums_holds : Rows.FuncsSumsCardSaid :=
  Claim7.holds_tied_plain_at .later [] [.data, .data, .data, .data, .sentinel, .sentinel, .data, .pinned] true Rows.funcsSumsCard.stood.harness true
    funcsSums_row (fun _ h => by cases h) (by kernel_rfl) (fun _ h => by cases h) funcsSums_row_tie rfl ⟨rfl, rfl⟩ (by kernel_rfl) rfl
    (fun f fn hf hfn => by
      obtain rfl : f = 6 := Option.some.inj ((show Tryz.prog.funcNamed "mizzen/mizzenlaw08.FuncsSums" = some 6 by kernel_rfl).symm.trans hf) |>.symm
      obtain rfl : fn = Tryz.f6 := (Option.some.inj (Tryz.func6.symm.trans hfn)).symm
      exact ⟨by kernel_rfl, fun j t ht => by
        rw [Tryz.params6] at ht
        have hm : t ∈ [2, 2] := by simpa using Array.mem_of_getElem? ht
        have hall : ([2, 2].all fun u => !Tryz.prog.wantsStandIn u) = true := by kernel_rfl
        exact (show Tryz.prog.wantsStandIn t = false by simpa using List.all_eq_true.1 hall t hm)⟩)
    (by kernel_rfl)

end Go.Proofs.YtkonkjaabkmecaaGreatDoor
