/-
  A region that draws its order, ends in one store that waits for all others, by one step between or none.
-/
import Derived.Test.YtbmlmcoepmbelaaDoorSpecs
set_option linter.unusedVariables false
set_option linter.unusedSimpArgs false
namespace Go.Proofs.YtbmlmcoepmbelaaDoor
open Go.RowKit

/-- As specsB, but what the last one waits for may wait for the others. -/
def specsC (ops : Array Oper) (n : Nat) (D : Nat → Tmp) : Bool :=
  decide (ops.size = n + 1) && (List.range n).all (fun i => ((ops[i]?).map fun o => decide (o.dst = some (D i)) && o.guard.isNone).getD false) &&
  ((ops[n]?).map fun o => o.dst.isNone && o.guard.isNone && (List.range n).all fun i => o.after.any fun e => Region.binds .any e && (decide (e.on = i) || ((ops[e.on]?).map fun o2 => o2.after.any fun e2 => Region.binds .any e2 && decide (e2.on = i)).getD false)).getD false &&
  (List.range n).all (fun i => (List.range n).all fun j => decide (D i = D j → i = j)) &&
  (List.range ops.size).all (fun i => ((ops[i]?).map fun o => o.after.all fun e => decide (e.on < i)).getD true)

theorem wp_region_specs2 {P : Program} {ops : Array Oper} {Q : Exit → Act → World → Prop} {id : Nat} {a : Act} {w : World} (v : World) (n : Nat) (D : Nat → Tmp) (U : Nat → Value → World → Prop) (Fin : Act → World → Prop)
    (hm : P.follows .mixedOrders = true) (hB : specsC ops n D = true) (hsz : ∀ i, i < n → D i < a.tmps.size) (hv : Below v.heap.size v w)
    (mono : ∀ i x w w', Below w.heap.size w w' → U i x w → U i x w')
    (hstep : ∀ i o b wb (K : Act → World → Prop), ops[i]? = some o → i < n → Agree (slots n D) a b → Below v.heap.size v wb → (∀ e ∈ o.after, Region.binds .any e = true → U e.on (sl b (D e.on)) wb) → (∀ x w', Below wb.heap.size wb w' → U i x w' → K (b.put (some (D i)) x) w') → o.wp P b wb K Q)
    (hlast : ∀ o b wb (K : Act → World → Prop), ops[n]? = some o → Agree (slots n D) a b → Below v.heap.size v wb → (∀ i, i < n → U i (sl b (D i)) wb) → (∀ w', Fin b w' → K b w') → o.wp P b wb K Q)
    (he : ∀ b wb, Agree (slots n D) a b → Fin b wb → Q .normal b wb) : (Code.region id ops true).wp P Q a w := by
  unfold specsC at hB
  simp only [Bool.and_eq_true] at hB
  obtain ⟨⟨⟨⟨h1, h2⟩, h3⟩, h4⟩, h5⟩ := hB
  have hsize : ops.size = n + 1 := of_decide_eq_true h1
  have hdst : ∀ i o, ops[i]? = some o → i < n → o.dst = some (D i) ∧ o.guard = none := fun i o ho hi => by
    have := List.all_eq_true.1 h2 i (List.mem_range.2 hi)
    rw [ho] at this
    simp only [Option.map_some, Option.getD_some, Bool.and_eq_true, decide_eq_true_eq, Option.isNone_iff_eq_none] at this
    exact this
  have hinj : ∀ i j, i < n → j < n → D i = D j → i = j := fun i j hi hj => by
    have := List.all_eq_true.1 (List.all_eq_true.1 h4 i (List.mem_range.2 hi)) j (List.mem_range.2 hj)
    exact of_decide_eq_true this
  refine wp_region_keeps (fun a0 d b wb => (∀ i o, ops[i]? = some o → d i = true → ∀ e ∈ o.after, Region.binds .any e = true → d e.on = true) ∧ Agree (slots n D) a0 b ∧ b.tmps.size = a0.tmps.size ∧ ((d n = false ∧ Below v.heap.size v wb ∧ ∀ i, i < n → d i = true → U i (sl b (D i)) wb) ∨ ((∀ i, i < n + 1 → d i = true) ∧ Fin b wb))) hm h5 ⟨(fun i o _ h => by cases h), Agree.refl _ _, rfl, .inl ⟨rfl, hv.drew, fun i hi h => by cases h⟩⟩ ?_ ?_
  · intro d b wb i o K ho hd hdep hI hK
    obtain ⟨hcl, hA, hbs, hI⟩ := hI
    have hcl2 : ∀ i2 o2, ops[i2]? = some o2 → (if i2 = i then true else d i2) = true → ∀ e ∈ o2.after, Region.binds .any e = true → (if e.on = i then true else d e.on) = true := fun i2 o2 ho2 hd2 e he hb => by
      by_cases h1 : e.on = i
      · rw [if_pos h1]
      · rw [if_neg h1]
        by_cases h2 : i2 = i
        · subst h2
          obtain rfl := Option.some.inj (ho2.symm.trans ho)
          exact hdep e he hb
        · rw [if_neg h2] at hd2
          exact hcl i2 o2 ho2 hd2 e he hb
    have hi : i < n + 1 := by rw [← hsize]; exact (Array.getElem?_eq_some_iff.1 ho).1
    by_cases hin : i < n
    · rcases hI with ⟨hdn, hbv, hU⟩ | ⟨hdn, _⟩
      · obtain ⟨e1, e2⟩ := hdst i o ho hin
        refine wpOp_of ho e2 (hstep i o b wb K ho hin hA hbv (fun e hee hb => ?_) fun x w' hb hx => hK _ _ ⟨hcl2, hA.put (mem_slots hin) x, (size_put _ _ _).trans hbs, .inl ⟨?_, bstep hbv hb hbv.size, fun j hj hdj => ?_⟩⟩)
        · have hlt := List.all_eq_true.1 h5 i (List.mem_range.2 (by omega))
          rw [ho] at hlt
          simp only [Option.map_some, Option.getD_some] at hlt
          have := (Array.all_eq_true_iff_forall_mem.1 hlt) e hee
          exact hU e.on (by have := of_decide_eq_true this; omega) (hdep e hee hb)
        · show (if n = i then true else d n) = false
          rw [if_neg (by omega)]; exact hdn
        · by_cases hji : j = i
          · subst hji
            rw [sl_eq (by rw [hbs]; exact hsz j hj)]
            exact hx
          · have hdj : (if j = i then true else d j) = true := hdj
            rw [if_neg hji] at hdj
            rw [sl_ne (fun e => hji (hinj j i hj hin e.symm))]
            exact mono _ _ _ _ hb (hU j hj hdj)
      · rw [hdn i hi] at hd; cases hd
    · obtain rfl : i = n := by omega
      rcases hI with ⟨hdn, hbv, hU⟩ | ⟨hdn, _⟩
      · rw [ho] at h3
        simp only [Option.map_some, Option.getD_some, Bool.and_eq_true, Option.isNone_iff_eq_none] at h3
        obtain ⟨⟨_, e2⟩, h3⟩ := h3
        have hall : ∀ j, j < i → d j = true := fun j hj => by
          have := List.all_eq_true.1 h3 j (List.mem_range.2 hj)
          obtain ⟨k, hk, hke⟩ := Array.any_eq_true.1 this
          simp only [Bool.and_eq_true, Bool.or_eq_true, decide_eq_true_eq] at hke
          have hd1 := hdep _ (Array.getElem_mem hk) hke.1
          rcases hke.2 with hk2 | hk2
          · rw [← hk2]
            exact hd1
          · cases hok : ops[(o.after[k]).on]? with
            | none => rw [hok] at hk2; simp at hk2
            | some o2 =>
              rw [hok] at hk2
              simp only [Option.map_some, Option.getD_some] at hk2
              obtain ⟨k3, hk3, hke3⟩ := Array.any_eq_true.1 hk2
              simp only [Bool.and_eq_true, decide_eq_true_eq] at hke3
              rw [← hke3.2]
              exact hcl _ o2 hok hd1 _ (Array.getElem_mem hk3) hke3.1
        exact wpOp_of ho e2 (hlast o b wb K ho hA hbv (fun j hj => hU j hj (hall j hj)) fun w' hf => hK _ _ ⟨hcl2, hA, hbs, .inr ⟨fun j hj => by
          show (if j = i then true else d j) = true
          by_cases hji : j = i
          · rw [if_pos hji]
          · rw [if_neg hji]; exact hall j (by omega), hf⟩⟩)
      · rw [hdn i hi] at hd; cases hd
  · intro d b wb hall hI
    obtain ⟨_, hA, hbs, hI⟩ := hI
    rcases hI with ⟨hdn, _⟩ | ⟨_, hF⟩
    · rw [hall n (by omega)] at hdn; cases hdn
    · exact he b wb hA hF


end Go.Proofs.YtbmlmcoepmbelaaDoor
