/-
  ScalarWords of mizzenlaw04: for every text and every value the law returns true, and both read as before. The card ties the variables of Go's library that the row lists to the program's text.
-/
import Derived.Test.YtfadijofnaepnaaDoorOpenFlat
import Derived.Test.YtfadijofnaepnaaDoorLift
import Derived.Test.YtfadijofnaepnaaDoorPowLaid
import Derived.Test.YtfadijofnaepnaaDoorLawWords
set_option linter.unusedVariables false
set_option linter.unusedSimpArgs false
namespace Go.Proofs.YtfadijofnaepnaaDoor
open Go.ChangeShapes Go.WideShapes Go.ChangeAt Go.RowKit

theorem Tryd.gErr : Tryd.prog.globalNamed "strconv.ErrRange" = some 1 := by kernel_rfl
def typeIs (P : Program) (g : Nat) : Bool := match (P.globals[g]?).map (·.type) with
  | some t => (match P.underlying t with
    | some (.interface _) => true
    | _ => false)
  | none => false
theorem Tryd.gErrFace : typeIs Tryd.prog 1 = true := by kernel_rfl

theorem trod_face {H : Type} {enc : TypeId × Value → H} {P : Program} {w : World} {base : Nat} {sp : Nat → Bool} {held : Bool} {fuel : Nat} {t : TypeId} {cs : List Value} {x : DataW H × List MemPlace} {ms} (ht : P.underlying t = some (.interface ms)) (h : DataW.trod enc P w base sp held fuel t cs = some x) :
    ∃ v, cs = [v] ∧ (v = .nilIface ∨ ∃ te pe, v = .iface te pe) := by
  cases fuel with
  | zero => simp [DataW.trod] at h
  | succ n =>
    unfold DataW.trod at h
    rw [ht] at h
    split at h <;> first | (exact ⟨_, rfl, .inl rfl⟩) | (exact ⟨_, rfl, .inr ⟨_, _, rfl⟩⟩) | simp_all

theorem err_of_laid {W : World} {x1 x2 x3 x4 : String × DataW Unit} {d : DataW Unit} {rest : List (String × DataW Unit)} (h : laidMet Tryd.prog (x1 :: x2 :: x3 :: x4 :: ("strconv.ErrRange", d) :: rest) W) :
    ∃ ev, W.cell? ⟨1, 0, none⟩ = some ev ∧ (ev = .nilIface ∨ ∃ te pe, ev = .iface te pe) := by
  obtain ⟨ps, ⟨g0, t0, cs0, f0, p0, q0, hg0, ht0, hv0, hd0, ⟨g1, t1, cs1, f1, p1, q1, hg1, ht1, hv1, hd1, ⟨g2, t2, cs2, f2, p2, q2, hg2, ht2, hv2, hd2, ⟨g3, t3, cs3, f3, p3, q3, hg3, ht3, hv3, hd3, ⟨g, t, cs, fuel, p, q, hg, ht, hvar, hd, _, _⟩, _⟩, _⟩, _⟩, _⟩, _⟩ := h
  obtain rfl := Option.some.inj (Tryd.gErr.symm.trans hg)
  have hf := Tryd.gErrFace
  unfold typeIs at hf
  rw [ht] at hf
  simp only at hf
  cases hu : Tryd.prog.underlying t with
  | none => rw [hu] at hf; cases hf
  | some d2 =>
    rw [hu] at hf
    cases d2 with
    | interface ms =>
      obtain ⟨v, e, hv⟩ := trod_face hu hd
      refine ⟨v, ?_, hv⟩
      rw [World.var?_cell Tryd.gErr hvar]
      have : cs[0]? = cs.toList[0]? := by simp
      rw [this, e]
      rfl
    | _ => cases hf

set_option maxRecDepth 100000 in
theorem scalarWords_lifted (os : Os) (started : os.Started) (H : Type) (enc : TypeId × Value → H) :
    ReturnsInHanded {} Tryd.checked os 3 .any (fun w args => (Rows.scalarWordsSpec.pre enc Tryd.prog Tryd.f3 Rows.scalarWordsRow.domain false w args ∧ laidMetH Tryd.prog Rows.scalarWordsRow.laid w) ∧ sizedMet enc Tryd.prog Tryd.f3 (OpenSpec.ofChange Rows.scalarWordsSpec) false w args)
      (Rows.scalarWordsSpec.post enc Tryd.prog Tryd.f3 false true false false) := by
  refine returns_laid_shaped (C := Tryd.checked) (X := fun w _ => laidMetH Tryd.prog Rows.scalarWordsRow.laid w) (fun _ _ _ hh h => h.of_heap hh) Tryd.own started (by kernel_rfl) Tryd.func3
    (ChangeSpec.witness_shaped (enc := enc) (C := Tryd.checked) (os := os) (X := fun w _ => laidMetH Tryd.prog Rows.scalarWordsRow.laid w) false (World.laidAll Tryd.prog os Rows.scalarWordsRow.laid) #[.string ⟨#[]⟩, .agg zeroCells] 8 (World.laidAll_os _ _ _)
      (World.shaped_of_ZipB (by kernel_rfl) (by kernel_rfl)) (by kernel_rfl) (by kernel_rfl) (by kernel_rfl)
      (by rw [MakeChecks.laidMetH_plain _ _ _ (by kernel_rfl)]; exact laidMet_laidAll _ (by kernel_rfl) (by kernel_rfl))) ?_
  intro W base args ds gs before hval0 hW _hsz0 hlaid hsh
  have hval : ∀ (j : Nat) t v, Tryd.f3.params[j]? = some t → args[j]? = some v → Value.okWide Tryd.prog W .any base t v := hval0
  have hsz : (DataW.weightsEach Tryd.prog (Tryd.f3.params.toList ++ Rows.scalarWordsSpec.plain.varTypes Tryd.prog) (ds ++ gs)).all (· ≤ reachBytes) = true := _hsz0
  have hW' := hW
  obtain ⟨p, q, hA0, hV, rfl, hfz, hnd⟩ := hW
  have hA : DataW.TrodAll enc Tryd.prog W 0 (fun _ => true) true Tryd.f3.params.toList args.toList ds p := hA0
  rw [Tryd.params3] at hA hval hsz
  obtain ⟨v0, v1, d0, d1, p0, p1, rfl, rfl, rfl, h0, h1⟩ := trodAll_two hA
  obtain ⟨rfl, rfl⟩ := trodVars_none hV
  clear hA0 hval0
  simp only [List.append_nil] at hW'
  have hsm0 : SmallW Tryd.prog 9 d0 := fun n hn => of_decide_eq_true (List.all_eq_true.1 hsz n (DataW.weights_mem_each (j := 0) (t := 9) rfl rfl n hn))
  obtain ⟨s0, rfl, hs0⟩ := open_str (hval 0 9 v0 rfl rfl) h0 hsm0
  have hsm1 : SmallW Tryd.prog 25 d1 := fun n hn => of_decide_eq_true (List.all_eq_true.1 hsz n (DataW.weights_mem_each (j := 1) (t := 25) rfl rfl n hn))
  obtain ⟨cs, t, rfl, hL1⟩ := open_value (hval 1 25 v1 rfl rfl) h1 hsm1
  have hlt : ∀ x ∈ p0 ++ p1, x.block < W.heap.size := fun x hx => by have := hW'.lt x hx; exact this
  rw [MakeChecks.laidMetH_plain _ _ _ (by kernel_rfl)] at hlaid
  have hpow : Pow10 W := pow_of_laid hlaid
  obtain ⟨ev, hev, hek⟩ := err_of_laid hlaid
  have hW1 : 1 < W.heap.size := by
    cases hh : W.heap[1]? with
    | none => simp [World.cell?, hh] at hev
    | some o => exact (Array.getElem?_eq_some_iff.1 hh).1
  refine (scalarWords_any s0 hs0 hL1 hpow ev hev hek hW1).mono fun e W' ⟨he, hb⟩ => ?_
  subst he
  refine ⟨.bool true, rfl, ?_⟩
  have hres : DataW.TrodAll enc Tryd.prog W' W.heap.size (fun _ => false) false [4] [Value.bool true] [(.lit (.bool true) : DataW H)] [] := trodAll_mk1 (shut_bool Tryd.underlying4 _)
  have hargs := trodAll_mk2 (again_str h0 hb (fun x hx => hlt x (by simp [hx]))) (again_value h1 hb (fun x hx => hlt x (by simp [hx])))
  exact ⟨[d0, d1], [], _, [], _, [], hW', hres, hargs, rfl, hb.frame _, fun h => by cases h⟩

theorem scalarWords_row : Rows.ScalarWordsSaid :=
  OpenClaim.holds_of_wide 3 Tryd.f3 rfl rfl rfl rfl rfl rfl rfl ⟨rfl, rfl, rfl, rfl, rfl⟩ rfl rfl rfl rfl rfl (by kernel_rfl) Tryd.func3 (by kernel_rfl)
    (of_decide_eq_true (by kernel_rfl)) (by unfold Func.isWrapper; first | (rw [if_pos (by decide +kernel)]; kernel_rfl) | (rw [if_neg (by decide +kernel)]; exact ⟨rfl, rfl⟩))
    (fun os started H enc _ => scalarWords_lifted os started H enc)

theorem scalarWords_holds : Rows.ScalarWordsCardSaid :=
  Claim7.holds_tied_plain_at .later [] [.data, .data, .data, .data, .sentinel, .sentinel, .pinned] true Rows.scalarWordsCard.stood.harness true
    scalarWords_row (fun _ h => by cases h) (by kernel_rfl) (fun _ h => by cases h) scalarWords_row_tie rfl ⟨rfl, rfl⟩ (by kernel_rfl) rfl
    (fun f fn hf hfn => by
      obtain rfl : f = 3 := Option.some.inj ((show Tryd.prog.funcNamed "mizzen/mizzenlaw04.ScalarWords" = some 3 by kernel_rfl).symm.trans hf) |>.symm
      obtain rfl : fn = Tryd.f3 := (Option.some.inj (Tryd.func3.symm.trans hfn)).symm
      exact ⟨by kernel_rfl, fun j t ht => by
        rw [Tryd.params3] at ht
        have hm : t ∈ [9, 25] := by simpa using Array.mem_of_getElem? ht
        have hall : ([9, 25].all fun u => !Tryd.prog.wantsStandIn u) = true := by kernel_rfl
        exact (show Tryd.prog.wantsStandIn t = false by simpa using List.all_eq_true.1 hall t hm)⟩)
    (by kernel_rfl)

end Go.Proofs.YtfadijofnaepnaaDoor
