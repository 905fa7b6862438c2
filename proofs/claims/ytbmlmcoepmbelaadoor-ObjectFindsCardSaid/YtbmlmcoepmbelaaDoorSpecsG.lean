/-
  A region that draws its order, all of whose operations lay a value; some wait for a guard that is known to hold.
-/
import Derived.Test.YtbmlmcoepmbelaaDoorSpecsB
set_option linter.unusedVariables false
set_option linter.unusedSimpArgs false
namespace Go.Proofs.YtbmlmcoepmbelaaDoor
open Go.RowKit

theorem yielded_of {ops : Array Oper} {a : Act} {j : Nat} {o : Oper} {t : Tmp} {b : Bool} (ho : ops[j]? = some o) (hd : o.dst = some t) (hv : sl a t = .bool b) : yielded ops a.tmps j = some b := by
  unfold yielded
  rw [ho]
  simp only [Option.bind_some, hd]
  unfold sl at hv
  cases h : a.tmps[t]? with
  | none => rw [h] at hv; simp [undef] at hv
  | some v => rw [h] at hv; simp only [Option.getD_some] at hv; rw [hv]
theorem wpOp_wanted {P : Program} {ops : Array Oper} {Q : Exit → Act → World → Prop} {i : Nat} {o : Oper} {a : Act} {w : World} {K : Act → World → Prop} (ho : ops[i]? = some o) (hg : o.guard = none ∨ ∃ g b, o.guard = some (g, b) ∧ yielded ops a.tmps g = some b) (h : o.wp P a w K Q) : wpOp P ops Q i K a w := by
  unfold wpOp
  rw [ho]
  have hw : Region.wanted o (yielded ops a.tmps) = true := by
    rcases hg with hg | ⟨g, b, hg, hy⟩
    · simp [Region.wanted, hg]
    · simp [Region.wanted, hg, hy]
  simp only [hw, if_true]
  exact .inl h

/-- The slots that the n operations write are D 0, D 1, ..; each waits for its guard. -/
def specsD (ops : Array Oper) (n : Nat) (D : Nat → Tmp) : Bool :=
  decide (ops.size = n) && (List.range n).all (fun i => ((ops[i]?).map fun o => decide (o.dst = some (D i)) && (match o.guard with | none => true | some (g, _) => o.after.any fun e => Region.binds .any e && decide (e.on = g))).getD false) &&
  (List.range n).all (fun i => (List.range n).all fun j => decide (D i = D j → i = j)) &&
  (List.range ops.size).all (fun i => ((ops[i]?).map fun o => o.after.all fun e => decide (e.on < i)).getD true)

theorem wp_region_specs3 {P : Program} {ops : Array Oper} {Q : Exit → Act → World → Prop} {id : Nat} {a : Act} {w : World} (v : World) (n : Nat) (D : Nat → Tmp) (U : Nat → Value → World → Prop)
    (hm : P.follows .mixedOrders = true) (hB : specsD ops n D = true) (hsz : ∀ i, i < n → D i < a.tmps.size) (hv : Below v.heap.size v w)
    (mono : ∀ i x w w', Below w.heap.size w w' → U i x w → U i x w')
    (hgd : ∀ (i : Nat) (o : Oper) (g : Nat) (b : Bool), ops[i]? = some o → o.guard = some (g, b) → ∀ x w, U g x w → x = .bool b)
    (hstep : ∀ i o b wb (K : Act → World → Prop), ops[i]? = some o → i < n → Agree (slots n D) a b → Below v.heap.size v wb → (∀ e ∈ o.after, Region.binds .any e = true → U e.on (sl b (D e.on)) wb) → (∀ x w', Below wb.heap.size wb w' → U i x w' → K (b.put (some (D i)) x) w') → o.wp P b wb K Q)
    (he : ∀ b wb, Agree (slots n D) a b → Below v.heap.size v wb → (∀ i, i < n → U i (sl b (D i)) wb) → Q .normal b wb) : (Code.region id ops true).wp P Q a w := by
  unfold specsD at hB
  simp only [Bool.and_eq_true] at hB
  obtain ⟨⟨⟨h1, h2⟩, h4⟩, h5⟩ := hB
  have hsize : ops.size = n := of_decide_eq_true h1
  have hdst : ∀ i o, ops[i]? = some o → i < n → o.dst = some (D i) ∧ (∀ g b, o.guard = some (g, b) → ∃ e ∈ o.after, Region.binds .any e = true ∧ e.on = g) := fun i o ho hi => by
    have := List.all_eq_true.1 h2 i (List.mem_range.2 hi)
    rw [ho] at this
    simp only [Option.map_some, Option.getD_some, Bool.and_eq_true, decide_eq_true_eq] at this
    refine ⟨this.1, fun g b hg => ?_⟩
    have h3 := this.2
    rw [hg] at h3
    obtain ⟨k, hk, hke⟩ := Array.any_eq_true.1 h3
    simp only [Bool.and_eq_true, decide_eq_true_eq] at hke
    exact ⟨_, Array.getElem_mem hk, hke⟩
  have hinj : ∀ i j, i < n → j < n → D i = D j → i = j := fun i j hi hj => by
    have := List.all_eq_true.1 (List.all_eq_true.1 h4 i (List.mem_range.2 hi)) j (List.mem_range.2 hj)
    exact of_decide_eq_true this
  refine wp_region_keeps (fun a0 d b wb => Agree (slots n D) a0 b ∧ b.tmps.size = a0.tmps.size ∧ Below v.heap.size v wb ∧ ∀ i, i < n → d i = true → U i (sl b (D i)) wb) hm h5 ⟨Agree.refl _ _, rfl, hv.drew, fun i hi h => by cases h⟩ ?_ ?_
  · intro d b wb i o K ho hd hdep hI hK
    obtain ⟨hA, hbs, hbv, hU⟩ := hI
    have hin : i < n := by rw [← hsize]; exact (Array.getElem?_eq_some_iff.1 ho).1
    obtain ⟨e1, e2⟩ := hdst i o ho hin
    have hdeps : ∀ e ∈ o.after, Region.binds .any e = true → e.on < n ∧ U e.on (sl b (D e.on)) wb := fun e hee hb => by
      have hlt := List.all_eq_true.1 h5 i (List.mem_range.2 (by omega))
      rw [ho] at hlt
      simp only [Option.map_some, Option.getD_some] at hlt
      have := (Array.all_eq_true_iff_forall_mem.1 hlt) e hee
      have h7 := of_decide_eq_true this
      exact ⟨by omega, hU e.on (by omega) (hdep e hee hb)⟩
    refine wpOp_wanted ho ?_ (hstep i o b wb K ho hin hA hbv (fun e hee hb => (hdeps e hee hb).2) fun x w' hb hx => hK _ _ ⟨hA.put (mem_slots hin) x, (size_put _ _ _).trans hbs, bstep hbv hb hbv.size, fun j hj hdj => ?_⟩)
    · cases hg : o.guard with
      | none => exact .inl rfl
      | some gb =>
        obtain ⟨g, bb⟩ := gb
        obtain ⟨e, hee, hbe, rfl⟩ := e2 g bb hg
        obtain ⟨hlt, hu⟩ := hdeps e hee hbe
        have hog : ops[e.on]? = some ops[e.on] := Array.getElem?_eq_getElem (by omega)
        exact .inr ⟨e.on, bb, rfl, yielded_of hog (hdst _ _ hog hlt).1 (hgd i o e.on bb ho hg _ _ hu)⟩
    · by_cases hji : j = i
      · subst hji
        rw [sl_eq (by rw [hbs]; exact hsz j hj)]
        exact hx
      · have hdj : (if j = i then true else d j) = true := hdj
        rw [if_neg hji] at hdj
        rw [sl_ne (fun e => hji (hinj j i hj hin e.symm))]
        exact mono _ _ _ _ hb (hU j hj hdj)
  · intro d b wb hall hI
    obtain ⟨hA, hbs, hbv, hU⟩ := hI
    exact he b wb hA hbv fun i hi => hU i hi (hall i (by omega))

end Go.Proofs.YtbmlmcoepmbelaaDoor
