/-
  A region that draws its order, one of whose operations grows an own slice, and whose last one is a call.
-/
import Derived.Test.YtfmlhdkodnbfaaaSpecs
set_option linter.unusedVariables false
set_option linter.unusedSimpArgs false
namespace Go.Proofs.Ytfmlhdkodnbfaaa
open Go.RowKit

/-- As specsB, but the last operation lays a value, too, and each other one is waited for by some later one. -/
def specsK (ops : Array Oper) (n : Nat) (D : Nat → Tmp) : Bool :=
  decide (ops.size = n + 1) && (List.range n).all (fun i => ((ops[i]?).map fun o => decide (o.dst = some (D i)) && o.guard.isNone).getD false) &&
  ((ops[n]?).map fun o => decide (o.dst = some (D n)) && o.guard.isNone && (List.range n).all fun i => (List.range (n + 1)).any fun j => decide (i < j) && ((ops[j]?).map fun o2 => o2.after.any fun e => Region.binds .any e && decide (e.on = i)).getD false).getD false &&
  (List.range (n + 1)).all (fun i => (List.range (n + 1)).all fun j => decide (D i = D j → i = j)) &&
  (List.range ops.size).all (fun i => ((ops[i]?).map fun o => o.after.all fun e => decide (e.on < i)).getD true)

theorem wp_region_growsC {P : Program} {ops : Array Oper} {Q : Exit → Act → World → Prop} {id : Nat} {a : Act} {w : World} (Base G : World → Prop) (Rel : World → World → Prop) (p n : Nat) (D : Nat → Tmp) (U : Nat → Value → World → Prop) (Fin : World → Prop)
    (hm : P.follows .mixedOrders = true) (hB : specsK ops n D = true) (hsz : ∀ i, i < n → D i < a.tmps.size) (hp : p < n) (hv : Base w.drew) (hg : G w.drew) (hbase : ∀ w w', Below w.heap.size w w' → Base w → Base w') (hbaseR : ∀ w w', Rel w w' → Base w → Base w') (hG : ∀ w w', Below w.heap.size w w' → G w → G w')
    (monoR : ∀ i x w w', i ≠ p → Rel w w' → U i x w → U i x w')
    (mono : ∀ i x w w', Below w.heap.size w w' → U i x w → U i x w')
    (hstep : ∀ i o b wb (K : Act → World → Prop), ops[i]? = some o → i < n → i ≠ p → Agree (slots (n + 1) D) a b → Base wb → (∀ e ∈ o.after, Region.binds .any e = true → U e.on (sl b (D e.on)) wb) → (∀ x w', Below wb.heap.size wb w' → U i x w' → K (b.put (some (D i)) x) w') → o.wp P b wb K Q)
    (hgrow : ∀ o b wb (K : Act → World → Prop), ops[p]? = some o → Agree (slots (n + 1) D) a b → Base wb → G wb → (∀ e ∈ o.after, Region.binds .any e = true → U e.on (sl b (D e.on)) wb) → (∀ x w', Rel wb w' → U p x w' → K (b.put (some (D p)) x) w') → o.wp P b wb K Q)
    (hlast : ∀ o b wb (K : Act → World → Prop), ops[n]? = some o → Agree (slots (n + 1) D) a b → Base wb → (∀ i, i < n → U i (sl b (D i)) wb) → (∀ x w', Fin w' → K (b.put (some (D n)) x) w') → o.wp P b wb K Q)
    (he : ∀ b wb, Agree (slots (n + 1) D) a b → Fin wb → Q .normal b wb) : (Code.region id ops true).wp P Q a w := by
  unfold specsK at hB
  simp only [Bool.and_eq_true] at hB
  obtain ⟨⟨⟨⟨h1, h2⟩, h3⟩, h4⟩, h5⟩ := hB
  have hsize : ops.size = n + 1 := of_decide_eq_true h1
  have hdst : ∀ i o, ops[i]? = some o → i < n → o.dst = some (D i) ∧ o.guard = none := fun i o ho hi => by
    have := List.all_eq_true.1 h2 i (List.mem_range.2 hi)
    rw [ho] at this
    simp only [Option.map_some, Option.getD_some, Bool.and_eq_true, decide_eq_true_eq, Option.isNone_iff_eq_none] at this
    exact this
  have hinj : ∀ i j, i < n → j < n → D i = D j → i = j := fun i j hi hj => by
    have := List.all_eq_true.1 (List.all_eq_true.1 h4 i (List.mem_range.2 (show i < n + 1 by omega))) j (List.mem_range.2 (show j < n + 1 by omega))
    exact of_decide_eq_true this
  refine wp_region_keeps (fun a0 d b wb => (∀ i o, ops[i]? = some o → d i = true → ∀ e ∈ o.after, Region.binds .any e = true → d e.on = true) ∧ Agree (slots (n + 1) D) a0 b ∧ b.tmps.size = a0.tmps.size ∧ ((d n = false ∧ Base wb ∧ (d p = false → G wb) ∧ ∀ i, i < n → d i = true → U i (sl b (D i)) wb) ∨ ((∀ i, i < n + 1 → d i = true) ∧ Fin wb))) hm h5 ⟨(fun i o _ h => by cases h), Agree.refl _ _, rfl, .inl ⟨rfl, hv, fun _ => hg, fun i hi h => by cases h⟩⟩ ?_ ?_
  · intro d b wb i o K ho hd hdep hI hK
    obtain ⟨hcl, hA, hbs, hI⟩ := hI
    have hcl2 : ∀ i2 o2, ops[i2]? = some o2 → (if i2 = i then true else d i2) = true → ∀ e ∈ o2.after, Region.binds .any e = true → (if e.on = i then true else d e.on) = true := fun i2 o2 ho2 hd2 e he hb => by
      by_cases h1 : e.on = i
      · rw [if_pos h1]
      · rw [if_neg h1]
        by_cases h2 : i2 = i
        · subst h2
          obtain rfl := Option.some.inj (ho2.symm.trans ho)
          exact hdep e he hb
        · rw [if_neg h2] at hd2
          exact hcl i2 o2 ho2 hd2 e he hb
    have hi : i < n + 1 := by rw [← hsize]; exact (Array.getElem?_eq_some_iff.1 ho).1
    by_cases hin : i < n
    · rcases hI with ⟨hdn, hbv, hGG, hU⟩ | ⟨hdn, _⟩
      · obtain ⟨e1, e2⟩ := hdst i o ho hin
        have hdeps : ∀ e ∈ o.after, Region.binds .any e = true → U e.on (sl b (D e.on)) wb := fun e hee hb => by
          have hlt := List.all_eq_true.1 h5 i (List.mem_range.2 (by omega))
          rw [ho] at hlt
          simp only [Option.map_some, Option.getD_some] at hlt
          have := (Array.all_eq_true_iff_forall_mem.1 hlt) e hee
          exact hU e.on (by have := of_decide_eq_true this; omega) (hdep e hee hb)
        have hdn2 : (if n = i then true else d n) = false := by rw [if_neg (by omega)]; exact hdn
        by_cases hip : i = p
        · subst hip
          refine wpOp_of ho e2 (hgrow o b wb K ho hA hbv (hGG hd) hdeps fun x w' hb hx => hK _ _ ⟨hcl2, hA.put (mem_slots (show i < n + 1 by omega)) x, (size_put _ _ _).trans hbs, .inl ⟨hdn2, hbaseR _ _ hb hbv, fun h => ?_, fun j hj hdj => ?_⟩⟩)
          · have h : (if i = i then true else d i) = false := h
            rw [if_pos rfl] at h; cases h
          · by_cases hji : j = i
            · subst hji
              rw [sl_eq (by rw [hbs]; exact hsz j hj)]
              exact hx
            · have hdj : (if j = i then true else d j) = true := hdj
              rw [if_neg hji] at hdj
              rw [sl_ne (fun e => hji (hinj j i hj hin e.symm))]
              exact monoR _ _ _ _ hji hb (hU j hj hdj)
        · refine wpOp_of ho e2 (hstep i o b wb K ho hin hip hA hbv hdeps fun x w' hb hx => hK _ _ ⟨hcl2, hA.put (mem_slots (show i < n + 1 by omega)) x, (size_put _ _ _).trans hbs, .inl ⟨hdn2, hbase _ _ hb hbv, fun h => ?_, fun j hj hdj => ?_⟩⟩)
          · have h : (if p = i then true else d p) = false := h
            rw [if_neg (fun e => hip e.symm)] at h
            exact hG _ _ hb (hGG h)
          · by_cases hji : j = i
            · subst hji
              rw [sl_eq (by rw [hbs]; exact hsz j hj)]
              exact hx
            · have hdj : (if j = i then true else d j) = true := hdj
              rw [if_neg hji] at hdj
              rw [sl_ne (fun e => hji (hinj j i hj hin e.symm))]
              exact mono _ _ _ _ hb (hU j hj hdj)
      · rw [hdn i hi] at hd; cases hd
    · obtain rfl : i = n := by omega
      rcases hI with ⟨hdn, hbv, hGG, hU⟩ | ⟨hdn, _⟩
      · rw [ho] at h3
        simp only [Option.map_some, Option.getD_some, Bool.and_eq_true, decide_eq_true_eq, Option.isNone_iff_eq_none] at h3
        obtain ⟨⟨e1, e2⟩, h3⟩ := h3
        have hall : ∀ c j, j < i → i - j ≤ c → d j = true := fun c => by
          induction c with
          | zero => intro j hj hc; omega
          | succ c ih =>
            intro j hj hc
            have := List.all_eq_true.1 h3 j (List.mem_range.2 hj)
            obtain ⟨k, hk, hke⟩ := List.any_eq_true.1 this
            simp only [Bool.and_eq_true, decide_eq_true_eq] at hke
            obtain ⟨hjk, hke⟩ := hke
            have hkn := List.mem_range.1 hk
            cases hok : ops[k]? with
            | none => rw [hok] at hke; cases hke
            | some ok =>
              rw [hok] at hke
              simp only [Option.map_some, Option.getD_some] at hke
              obtain ⟨q, hq, hqe⟩ := Array.any_eq_true.1 hke
              simp only [Bool.and_eq_true, decide_eq_true_eq] at hqe
              by_cases hki : k = i
              · subst hki
                obtain rfl := Option.some.inj (hok.symm.trans ho)
                rw [← hqe.2]
                exact hdep _ (Array.getElem_mem hq) hqe.1
              · rw [← hqe.2]
                exact hcl k ok hok (ih k (by omega) (by omega)) _ (Array.getElem_mem hq) hqe.1
        have hall : ∀ j, j < i → d j = true := fun j hj => hall (i - j) j hj (Nat.le_refl _)
        exact wpOp_of ho e2 (hlast o b wb K ho hA hbv (fun j hj => hU j hj (hall j hj)) fun x w' hf => hK _ _ ⟨hcl2, hA.put (mem_slots (show i < i + 1 by omega)) x, (size_put _ _ _).trans hbs, .inr ⟨fun j hj => by
          show (if j = i then true else d j) = true
          by_cases hji : j = i
          · rw [if_pos hji]
          · rw [if_neg hji]; exact hall j (by omega), hf⟩⟩)
      · rw [hdn i hi] at hd; cases hd
  · intro d b wb hall hI
    obtain ⟨_, hA, hbs, hI⟩ := hI
    rcases hI with ⟨hdn, _⟩ | ⟨_, hF⟩
    · rw [hall n (by omega)] at hdn; cases hdn
    · exact he b wb hA hF

end Go.Proofs.Ytfmlhdkodnbfaaa
