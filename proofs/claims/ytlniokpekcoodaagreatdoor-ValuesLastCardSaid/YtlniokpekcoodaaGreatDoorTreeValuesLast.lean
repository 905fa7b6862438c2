/-
  ValuesLast of mizzenlaw11: for every value, every texts and every two whole numbers the law returns true, and what is handed in reads as before. The card ties the variables of Go's library that the row lists to the program's text.
-/
import Derived.Test.YtlniokpekcoodaaGreatDoorOpenM
import Derived.Test.YtlniokpekcoodaaGreatDoorLift
import Derived.Test.YtlniokpekcoodaaGreatDoorLawValLast
set_option linter.unusedVariables false
set_option linter.unusedSimpArgs false
namespace Go.Proofs.YtlniokpekcoodaaGreatDoor
open Go.ChangeShapes Go.WideShapes Go.ChangeAt Go.RowKit

set_option maxRecDepth 100000 in
theorem valuesLast_lifted (os : Os) (started : os.Started) (H : Type) (enc : TypeId × Value → H) :
    ReturnsInHanded {} Tryz.checked os 4 .any (fun w args => (Rows.valuesLastSpec.pre enc Tryz.prog Tryz.f4 Rows.valuesLastRow.domain false w args ∧ laidMetH Tryz.prog Rows.valuesLastRow.laid w) ∧ sizedMet enc Tryz.prog Tryz.f4 (OpenSpec.ofChange Rows.valuesLastSpec) false w args)
      (Rows.valuesLastSpec.post enc Tryz.prog Tryz.f4 false true false false) := by
  refine returns_laid_shaped (C := Tryz.checked) (X := fun w _ => laidMetH Tryz.prog Rows.valuesLastRow.laid w) (fun _ _ _ hh h => h.of_heap hh) Tryz.own started (by kernel_rfl) Tryz.func4
    (ChangeSpec.witness_shaped (enc := enc) (C := Tryz.checked) (os := os) (X := fun w _ => laidMetH Tryz.prog Rows.valuesLastRow.laid w) false (World.laidAll Tryz.prog os Rows.valuesLastRow.laid) #[.agg zeroCells, .slice none 0 0, .int .i64 0, .int .i64 0] 8 (World.laidAll_os _ _ _)
      (World.shaped_of_ZipB (by kernel_rfl) (by kernel_rfl)) (by kernel_rfl) (by kernel_rfl) (by kernel_rfl)
      (by rw [MakeChecks.laidMetH_plain _ _ _ (by kernel_rfl)]; exact laidMet_laidAll _ (by kernel_rfl) (by kernel_rfl))) ?_
  intro W base args ds gs before hval0 hW _hsz0 hlaid hsh
  have hval : ∀ (j : Nat) t v, Tryz.f4.params[j]? = some t → args[j]? = some v → Value.okWide Tryz.prog W .any base t v := hval0
  have hsz : (DataW.weightsEach Tryz.prog (Tryz.f4.params.toList ++ Rows.valuesLastSpec.plain.varTypes Tryz.prog) (ds ++ gs)).all (· ≤ reachBytes) = true := _hsz0
  have hW' := hW
  obtain ⟨p, q, hA0, hV, rfl, hfz, hnd⟩ := hW
  have hA : DataW.TrodAll enc Tryz.prog W 0 (fun _ => true) true Tryz.f4.params.toList args.toList ds p := hA0
  rw [Tryz.params4] at hA hval hsz
  obtain ⟨v0, v1, v2, v3, d0, d1, d2, d3, p0, p1, p2, p3, rfl, rfl, rfl, h0, h1, h2, h3⟩ := trodAll_four hA
  obtain ⟨rfl, rfl⟩ := trodVars_none hV
  clear hA0 hval0
  simp only [List.append_nil] at hW'
  have hsm0 : SmallW Tryz.prog 25 d0 := fun n hn => of_decide_eq_true (List.all_eq_true.1 hsz n (DataW.weights_mem_each (j := 0) (t := 25) rfl rfl n hn))
  obtain ⟨cs0, t0, rfl, hL0⟩ := open_value (hval 0 25 v0 rfl rfl) h0 hsm0
  have hsm1 : SmallW Tryz.prog 26 d1 := fun n hn => of_decide_eq_true (List.all_eq_true.1 hsz n (DataW.weights_mem_each (j := 1) (t := 26) rfl rfl n hn))
  obtain ⟨ks1, ak1, ck1, rfl, hS1⟩ := open_texts (hval 1 26 v1 rfl rfl) h1 hsm1
  obtain ⟨n2, rfl, hn2⟩ := open_number (hval 2 2 v2 rfl rfl) h2
  obtain ⟨n3, rfl, hn3⟩ := open_number (hval 3 2 v3 rfl rfl) h3
  have hlt : ∀ x ∈ p0 ++ p1 ++ p2 ++ p3, x.block < W.heap.size := fun x hx => by have := hW'.lt x hx; exact this
  obtain ⟨m, hm0⟩ := Tryz.laysM143.s1_3 W hsh
  have hm : W.cell? ⟨0, 0, none⟩ = some (.int .i64 m) := hm0
  have hW0 : 0 < W.heap.size := block_of_cell hm
  refine (valuesLast_any hL0 hS1 n2 n3 hn2 hn3 m hm hW0).mono fun e W' ⟨he, hb⟩ => ?_
  subst he
  refine ⟨.bool true, rfl, ?_⟩
  have hres : DataW.TrodAll enc Tryz.prog W' W.heap.size (fun _ => false) false [4] [Value.bool true] [(.lit (.bool true) : DataW H)] [] := trodAll_mk1 (shut_bool Tryz.underlying4 _)
  have hargs := trodAll_mk4 (again_value h0 hb (fun x hx => hlt x (by simp [hx]))) (again_texts h1 hb (fun x hx => hlt x (by simp [hx]))) (again_number h2 hb (fun x hx => hlt x (by simp [hx]))) (again_number h3 hb (fun x hx => hlt x (by simp [hx])))
  exact ⟨[d0, d1, d2, d3], [], _, [], _, [], hW', hres, hargs, rfl, hb.frame _, fun h => by cases h⟩

theorem valuesLast_row : Rows.ValuesLastSaid :=
  OpenClaim.holds_of_wide 4 Tryz.f4 rfl rfl rfl rfl rfl rfl rfl ⟨rfl, rfl, rfl, rfl, rfl⟩ rfl rfl rfl rfl rfl (by kernel_rfl) Tryz.func4 (by kernel_rfl)
    (of_decide_eq_true (by kernel_rfl)) (by unfold Func.isWrapper; first | (rw [if_pos (by decide +kernel)]; kernel_rfl) | (rw [if_neg (by decide +kernel)]; exact ⟨rfl, rfl⟩))
    (fun os started H enc _ => valuesLast_lifted os started H enc)

theorem valuesLast_holds : Rows.ValuesLastCardSaid :=
  Claim7.holds_tied_plain_at .later [] [.data, .data, .data, .data, .sentinel, .sentinel, .pinned] true Rows.valuesLastCard.stood.harness true
    valuesLast_row (fun _ h => by cases h) (by kernel_rfl) (fun _ h => by cases h) valuesLast_row_tie rfl ⟨rfl, rfl⟩ (by kernel_rfl) rfl
    (fun f fn hf hfn => by
      obtain rfl : f = 4 := Option.some.inj ((show Tryz.prog.funcNamed "mizzen/mizzenlaw11.ValuesLast" = some 4 by kernel_rfl).symm.trans hf) |>.symm
      obtain rfl : fn = Tryz.f4 := (Option.some.inj (Tryz.func4.symm.trans hfn)).symm
      exact ⟨by kernel_rfl, fun j t ht => by
        rw [Tryz.params4] at ht
        have hm : t ∈ [25, 26, 2, 2] := by simpa using Array.mem_of_getElem? ht
        have hall : ([25, 26, 2, 2].all fun u => !Tryz.prog.wantsStandIn u) = true := by kernel_rfl
        exact (show Tryz.prog.wantsStandIn t = false by simpa using List.all_eq_true.1 hall t hm)⟩)
    (by kernel_rfl)

end Go.Proofs.YtlniokpekcoodaaGreatDoor
