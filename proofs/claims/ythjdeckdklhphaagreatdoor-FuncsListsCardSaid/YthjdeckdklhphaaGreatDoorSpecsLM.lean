/-
  A region that draws its order: values (one of them a variable that is made), one store into that variable, and values that may come behind it.
-/
import Derived.Test.YthjdeckdklhphaaGreatDoorRegionM
set_option linter.unusedVariables false
set_option linter.unusedSimpArgs false
namespace Go.Proofs.YthjdeckdklhphaaGreatDoor
open Go.RowKit

theorem ready_nilB {ops : Array Oper} {l : Array Bool} (hz : l.size = ops.size) (hlt : ∀ (i : Nat) (o : Oper), ops[i]? = some o → ∀ e ∈ o.after, Region.binds .any e = true → e.on < i) (h : Region.ready .any ops l = []) : ∀ i, i < ops.size → l.getD i false = true := by
  intro i
  induction i using Nat.strongRecOn with
  | ind i ih =>
    intro hi
    cases hd : l.getD i false with
    | true => rfl
    | false =>
      have hi2 : i < l.size := by omega
      have h0 : l.getD i true = false := by simpa [Array.getD, hi2] using hd
      have hm : i ∈ Region.ready .any ops l := mem_ready.2 ⟨h0, ops[i], Array.getElem?_eq_getElem hi, fun e he hb => ih e.on (hlt i _ (Array.getElem?_eq_getElem hi) e he hb) (by have := hlt i _ (Array.getElem?_eq_getElem hi) e he hb; omega)⟩
      rw [h] at hm
      cases hm
/-- As wp_region_keeps; only what binds must wait for what stands ahead. -/
theorem wp_region_keepsB {P : Program} {ops : Array Oper} {Q : Exit → Act → World → Prop} {id : Nat} {a : Act} {w : World} (Inv : Act → (Nat → Bool) → Act → World → Prop) (hm : P.follows .mixedOrders = true) (hlt : (List.range ops.size).all (fun i => ((ops[i]?).map fun o => o.after.all fun e => !Region.binds .any e || decide (e.on < i)).getD true) = true)
    (h0 : Inv a (fun _ => false) a w.drew)
    (hs : ∀ d b w i o (K : Act → World → Prop), ops[i]? = some o → d i = false → (∀ e ∈ o.after, Region.binds .any e = true → d e.on = true) → Inv a d b w → (∀ b' w', Inv a (fun k => if k = i then true else d k) b' w' → K b' w') → wpOp P ops Q i K b w)
    (he : ∀ d b w, (∀ i, i < ops.size → d i = true) → Inv a d b w → Q .normal b w) : (Code.region id ops true).wp P Q a w := by
  refine wp_region_any hm (wpAny_inv (Inv a) (fun d b w i o h1 h2 h3 h4 => hs d b w i o _ h1 h2 h3 h4 fun _ _ h => h) (fun l a w hz hi hr => he _ a w (ready_nilB hz (fun i o ho e hee hbe => ?_) hr) hi) _ _ a _ (by simp) (by simp) ?_)
  · have hi : i < ops.size := (Array.getElem?_eq_some_iff.1 ho).1
    have h1 := List.all_eq_true.1 hlt i (List.mem_range.2 hi)
    rw [ho] at h1
    simp only [Option.map_some, Option.getD_some] at h1
    have := (Array.all_eq_true_iff_forall_mem.1 h1) e hee
    rw [hbe] at this
    simpa using this
  · have : (fun k => (Array.replicate ops.size false).getD k false) = fun _ => false := funext fun k => by
      simp [Array.getD]
    rw [this]
    exact h0

/-- n values, a store that waits for all but the late ones, one more value that waits for all. -/
def specsL (ops : Array Oper) (n : Nat) (D : Nat → Tmp) (L : Nat → Bool) : Bool :=
  decide (ops.size = n + 2) && (List.range n).all (fun i => ((ops[i]?).map fun o => decide (o.dst = some (D i)) && o.guard.isNone).getD false) &&
  ((ops[n]?).map fun o => o.dst.isNone && o.guard.isNone && (List.range n).all fun i => L i || o.after.any fun e => Region.binds .any e && decide (e.on = i)).getD false &&
  ((ops[n + 1]?).map fun o => decide (o.dst = some (D n)) && o.guard.isNone && (List.range (n + 1)).all fun i => o.after.any fun e => Region.binds .any e && decide (e.on = i)).getD false &&
  (List.range (n + 1)).all (fun i => (List.range (n + 1)).all fun j => decide (D i = D j → i = j)) &&
  (List.range ops.size).all (fun i => ((ops[i]?).map fun o => o.after.all fun e => !Region.binds .any e || decide (e.on < i)).getD true)

theorem wp_region_specsL {P : Program} {ops : Array Oper} {Q : Exit → Act → World → Prop} {id : Nat} {a : Act} {w : World} (v : World) (n p : Nat) (D : Nat → Tmp) (L : Nat → Bool) (U : Nat → Value → World → Prop) (V : Nat → Value → Prop) (Fin : Value → World → Prop)
    (hm : P.follows .mixedOrders = true) (hB : specsL ops n D L = true) (hsz : ∀ i, i < n + 1 → D i < a.tmps.size) (hp : p < n) (hpl : L p = false) (hv : Below v.heap.size v w)
    (mono : ∀ i x w w', Below w.heap.size w w' → U i x w → U i x w') (hV : ∀ i x w, i < n → U i x w → V i x) (hL : ∀ i x w, i < n → L i = true → V i x → U i x w)
    (hstep : ∀ i o b wb (K : Act → World → Prop), ops[i]? = some o → i < n → L i = false → Agree (slots (n + 1) D) a b → Below v.heap.size v wb → (∀ e ∈ o.after, Region.binds .any e = true → U e.on (sl b (D e.on)) wb) → (∀ x w', Below wb.heap.size wb w' → U i x w' → K (b.put (some (D i)) x) w') → o.wp P b wb K Q)
    (hlate : ∀ i o b wb (K : Act → World → Prop), ops[i]? = some o → i < n → L i = true → Agree (slots (n + 1) D) a b → (∀ e ∈ o.after, Region.binds .any e = true → V e.on (sl b (D e.on))) → (∀ x, V i x → K (b.put (some (D i)) x) wb) → o.wp P b wb K Q)
    (hstore : ∀ o b wb (K : Act → World → Prop), ops[n]? = some o → Agree (slots (n + 1) D) a b → Below v.heap.size v wb → (∀ i, i < n → L i = false → U i (sl b (D i)) wb) → (∀ w', Fin (sl b (D p)) w' → K b w') → o.wp P b wb K Q)
    (hlast : ∀ o b wb (K : Act → World → Prop), ops[n + 1]? = some o → Agree (slots (n + 1) D) a b → (∀ i, i < n → V i (sl b (D i))) → (∀ x, V n x → K (b.put (some (D n)) x) wb) → o.wp P b wb K Q)
    (he : ∀ b wb, Agree (slots (n + 1) D) a b → (∀ i, i < n + 1 → V i (sl b (D i))) → Fin (sl b (D p)) wb → Q .normal b wb) : (Code.region id ops true).wp P Q a w := by
  unfold specsL at hB
  simp only [Bool.and_eq_true] at hB
  obtain ⟨⟨⟨⟨⟨h1, h2⟩, h3⟩, h4⟩, h5⟩, h6⟩ := hB
  have hsize : ops.size = n + 2 := of_decide_eq_true h1
  have hdst : ∀ i o, ops[i]? = some o → i < n → o.dst = some (D i) ∧ o.guard = none := fun i o ho hi => by
    have := List.all_eq_true.1 h2 i (List.mem_range.2 hi)
    rw [ho] at this
    simp only [Option.map_some, Option.getD_some, Bool.and_eq_true, decide_eq_true_eq, Option.isNone_iff_eq_none] at this
    exact this
  have hinj : ∀ i j, i < n + 1 → j < n + 1 → D i = D j → i = j := fun i j hi hj => by
    have := List.all_eq_true.1 (List.all_eq_true.1 h5 i (List.mem_range.2 hi)) j (List.mem_range.2 hj)
    exact of_decide_eq_true this
  have hon : ∀ (i : Nat) (o : Oper), ops[i]? = some o → ∀ e ∈ o.after, Region.binds .any e = true → e.on < i := fun i o ho e he hbe => by
    have hi := (Array.getElem?_eq_some_iff.1 ho).1
    have hlt := List.all_eq_true.1 h6 i (List.mem_range.2 hi)
    rw [ho] at hlt
    simp only [Option.map_some, Option.getD_some] at hlt
    have := (Array.all_eq_true_iff_forall_mem.1 hlt) e he
    rw [hbe] at this
    simpa using this
  refine wp_region_keepsB (fun a0 d b wb => Agree (slots (n + 1) D) a0 b ∧ b.tmps.size = a0.tmps.size ∧ ((d n = false ∧ d (n + 1) = false ∧ Below v.heap.size v wb ∧ ∀ i, i < n → d i = true → U i (sl b (D i)) wb) ∨ ((∀ i, i < n → L i = false → d i = true) ∧ d n = true ∧ d (n + 1) = false ∧ (∀ i, i < n → d i = true → V i (sl b (D i))) ∧ Fin (sl b (D p)) wb) ∨ ((∀ i, i < n + 2 → d i = true) ∧ (∀ i, i < n + 1 → V i (sl b (D i))) ∧ Fin (sl b (D p)) wb))) hm h6 ⟨Agree.refl _ _, rfl, .inl ⟨rfl, rfl, hv.drew, fun i hi h => by cases h⟩⟩ ?_ ?_
  · intro d b wb i o K ho hd hdep hI hK
    obtain ⟨hA, hbs, hI⟩ := hI
    have hi : i < n + 2 := by rw [← hsize]; exact (Array.getElem?_eq_some_iff.1 ho).1
    by_cases hin : i < n
    · obtain ⟨e1, e2⟩ := hdst i o ho hin
      rcases hI with ⟨hdn, hdn2, hbv, hU⟩ | ⟨hdl, hdn, hdn2, hVV, hF⟩ | ⟨hdn, _⟩
      · have hUd : ∀ e ∈ o.after, Region.binds .any e = true → U e.on (sl b (D e.on)) wb := fun e hee hb => hU e.on (by have := hon i o ho e hee hb; omega) (hdep e hee hb)
        have fin : ∀ x w', Below wb.heap.size wb w' → U i x w' → K (b.put (some (D i)) x) w' := fun x w' hb hx => hK _ _ ⟨hA.put (mem_slots (by omega)) x, (size_put _ _ _).trans hbs, .inl ⟨by
          show (if n = i then true else d n) = false
          rw [if_neg (by omega)]; exact hdn, by
          show (if n + 1 = i then true else d (n + 1)) = false
          rw [if_neg (by omega)]; exact hdn2, bstep hbv hb hbv.size, fun j hj hdj => by
          by_cases hji : j = i
          · subst hji
            rw [sl_eq (by rw [hbs]; exact hsz j (by omega))]
            exact hx
          · have hdj : (if j = i then true else d j) = true := hdj
            rw [if_neg hji] at hdj
            rw [sl_ne (fun e => hji (hinj j i (by omega) (by omega) e.symm))]
            exact mono _ _ _ _ hb (hU j hj hdj)⟩⟩
        cases hLi : L i with
        | false => exact wpOp_of ho e2 (hstep i o b wb K ho hin hLi hA hbv hUd fin)
        | true => exact wpOp_of ho e2 (hlate i o b wb K ho hin hLi hA (fun e hee hb => hV _ _ _ (by have := hon i o ho e hee hb; omega) (hUd e hee hb)) fun x hx => fin x wb (Below.refl _ _) (hL i x wb hin hLi hx))
      · have hLi : L i = true := by
          cases hLi : L i with
          | true => rfl
          | false => rw [hdl i hin hLi] at hd; cases hd
        have hpi : p ≠ i := fun e => by rw [← e, hpl] at hLi; cases hLi
        refine wpOp_of ho e2 (hlate i o b wb K ho hin hLi hA (fun e hee hb => hVV _ (by have := hon i o ho e hee hb; omega) (hdep e hee hb)) fun x hx => hK _ _ ⟨hA.put (mem_slots (by omega)) x, (size_put _ _ _).trans hbs, .inr (.inl ⟨fun j hj hLj => ?_, ?_, ?_, fun j hj hdj => ?_, ?_⟩)⟩)
        · show (if j = i then true else d j) = true
          by_cases hji : j = i
          · rw [if_pos hji]
          · rw [if_neg hji]; exact hdl j hj hLj
        · show (if n = i then true else d n) = true
          rw [if_neg (by omega)]; exact hdn
        · show (if n + 1 = i then true else d (n + 1)) = false
          rw [if_neg (by omega)]; exact hdn2
        · by_cases hji : j = i
          · subst hji
            rw [sl_eq (by rw [hbs]; exact hsz j (by omega))]
            exact hx
          · have hdj : (if j = i then true else d j) = true := hdj
            rw [if_neg hji] at hdj
            rw [sl_ne (fun e => hji (hinj j i (by omega) (by omega) e.symm))]
            exact hVV j hj hdj
        · rw [sl_ne (fun e => hpi (hinj p i (by omega) (by omega) e.symm))]
          exact hF
      · rw [hdn i (by omega)] at hd; cases hd
    · by_cases hie : i = n
      · subst hie
        rcases hI with ⟨hdn, hdn2, hbv, hU⟩ | ⟨_, hdn, _⟩ | ⟨hdn, _⟩
        · rw [ho] at h3
          simp only [Option.map_some, Option.getD_some, Bool.and_eq_true, Option.isNone_iff_eq_none] at h3
          obtain ⟨⟨_, e2⟩, h3⟩ := h3
          have hall : ∀ j, j < i → L j = false → d j = true := fun j hj hLj => by
            have := List.all_eq_true.1 h3 j (List.mem_range.2 hj)
            rw [hLj, Bool.false_or] at this
            obtain ⟨k, hk, hke⟩ := Array.any_eq_true.1 this
            simp only [Bool.and_eq_true, decide_eq_true_eq] at hke
            rw [← hke.2]
            exact hdep _ (Array.getElem_mem hk) hke.1
          refine wpOp_of ho e2 (hstore o b wb K ho hA hbv (fun j hj hLj => hU j hj (hall j hj hLj)) fun w' hf => hK _ _ ⟨hA, hbs, .inr (.inl ⟨fun j hj hLj => ?_, ?_, ?_, fun j hj hdj => ?_, hf⟩)⟩)
          · show (if j = i then true else d j) = true
            rw [if_neg (by omega)]; exact hall j hj hLj
          · show (if i = i then true else d i) = true
            rw [if_pos rfl]
          · show (if i + 1 = i then true else d (i + 1)) = false
            rw [if_neg (by omega)]; exact hdn2
          · have hdj : (if j = i then true else d j) = true := hdj
            rw [if_neg (by omega)] at hdj
            exact hV _ _ _ hj (hU j hj hdj)
        · rw [hdn] at hd; cases hd
        · rw [hdn i (by omega)] at hd; cases hd
      · obtain rfl : i = n + 1 := by omega
        rw [ho] at h4
        simp only [Option.map_some, Option.getD_some, Bool.and_eq_true, decide_eq_true_eq, Option.isNone_iff_eq_none] at h4
        obtain ⟨⟨e1, e2⟩, h4⟩ := h4
        have hall : ∀ j, j < n + 1 → d j = true := fun j hj => by
          have := List.all_eq_true.1 h4 j (List.mem_range.2 hj)
          obtain ⟨k, hk, hke⟩ := Array.any_eq_true.1 this
          simp only [Bool.and_eq_true, decide_eq_true_eq] at hke
          rw [← hke.2]
          exact hdep _ (Array.getElem_mem hk) hke.1
        rcases hI with ⟨hdn, _⟩ | ⟨_, hdn, hdn2, hVV, hF⟩ | ⟨hdn, _⟩
        · rw [hall n (by omega)] at hdn; cases hdn
        · exact wpOp_of ho e2 (hlast o b wb K ho hA (fun j hj => hVV j hj (hall j (by omega))) fun x hx => hK _ _ ⟨hA.put (mem_slots (by omega)) x, (size_put _ _ _).trans hbs, .inr (.inr ⟨fun j hj => by
            show (if j = n + 1 then true else d j) = true
            by_cases hji : j = n + 1
            · rw [if_pos hji]
            · rw [if_neg hji]; exact hall j (by omega), fun j hj => by
            by_cases hjn : j = n
            · subst hjn
              rw [sl_eq (by rw [hbs]; exact hsz j (by omega))]
              exact hx
            · rw [sl_ne (fun e => by have := hinj j n (by omega) (by omega) e.symm; omega)]
              exact hVV j (by omega) (hall j (by omega)), by
            rw [sl_ne (fun e => by have := hinj p n (by omega) (by omega) e.symm; omega)]
            exact hF⟩)⟩)
        · rw [hdn (n + 1) (by omega)] at hd; cases hd
  · intro d b wb hall hI
    obtain ⟨hA, hbs, hI⟩ := hI
    rcases hI with ⟨hdn, _⟩ | ⟨_, _, hdn, _⟩ | ⟨_, hVV, hF⟩
    · rw [hall n (by omega)] at hdn; cases hdn
    · rw [hall (n + 1) (by omega)] at hdn; cases hdn
    · exact he b wb hA hVV hF

end Go.Proofs.YthjdeckdklhphaaGreatDoor

/-
  The rule of XSpecsL, with what each value has to do with the variable that is made in the midst.
-/
set_option linter.unusedVariables false
set_option linter.unusedSimpArgs false
namespace Go.Proofs.YthjdeckdklhphaaGreatDoor
open Go.RowKit

theorem wp_region_specsN {P : Program} {ops : Array Oper} {Q : Exit → Act → World → Prop} {id : Nat} {a : Act} {w : World} (v : World) (n p : Nat) (D : Nat → Tmp) (L : Nat → Bool) (U : Nat → Value → World → Prop) (N : Nat → Value → Value → World → Prop) (V : Nat → Value → Prop) (Fin : Value → World → Prop)
    (hm : P.follows .mixedOrders = true) (hB : specsL ops n D L = true) (hsz : ∀ i, i < n + 1 → D i < a.tmps.size) (hp : p < n) (hpl : L p = false) (hv : Below v.heap.size v w)
    (mono : ∀ i x w w', Below w.heap.size w w' → U i x w → U i x w') (monoN : ∀ i x y w w', i < n → Below w.heap.size w w' → N i x y w → N i x y w') (hNL : ∀ i x y w, L i = true → N i x y w) (hNp : ∀ x y w, N p x y w) (hV : ∀ i x w, i < n → U i x w → V i x) (hL : ∀ i x w, i < n → L i = true → V i x → U i x w)
    (hstep : ∀ i o b wb (K : Act → World → Prop), ops[i]? = some o → i < n → L i = false → Agree (slots (n + 1) D) a b → Below v.heap.size v wb → (∀ e ∈ o.after, Region.binds .any e = true → U e.on (sl b (D e.on)) wb) → (∀ x w', Below wb.heap.size wb w' → U i x w' → (i ≠ p → ∀ y, U p y wb → (∀ e ∈ o.after, Region.binds .any e = true → N e.on (sl b (D e.on)) y wb) → N i x y w') → (i = p → ∀ j z, j < n → U j z wb → N j z x w') → K (b.put (some (D i)) x) w') → o.wp P b wb K Q)
    (hlate : ∀ i o b wb (K : Act → World → Prop), ops[i]? = some o → i < n → L i = true → Agree (slots (n + 1) D) a b → (∀ e ∈ o.after, Region.binds .any e = true → V e.on (sl b (D e.on))) → (∀ x, V i x → K (b.put (some (D i)) x) wb) → o.wp P b wb K Q)
    (hstore : ∀ o b wb (K : Act → World → Prop), ops[n]? = some o → Agree (slots (n + 1) D) a b → Below v.heap.size v wb → (∀ i, i < n → L i = false → U i (sl b (D i)) wb) → (∀ i, i < n → L i = false → N i (sl b (D i)) (sl b (D p)) wb) → (∀ w', Fin (sl b (D p)) w' → K b w') → o.wp P b wb K Q)
    (hlast : ∀ o b wb (K : Act → World → Prop), ops[n + 1]? = some o → Agree (slots (n + 1) D) a b → (∀ i, i < n → V i (sl b (D i))) → (∀ x, V n x → K (b.put (some (D n)) x) wb) → o.wp P b wb K Q)
    (he : ∀ b wb, Agree (slots (n + 1) D) a b → (∀ i, i < n + 1 → V i (sl b (D i))) → Fin (sl b (D p)) wb → Q .normal b wb) : (Code.region id ops true).wp P Q a w := by
  unfold specsL at hB
  simp only [Bool.and_eq_true] at hB
  obtain ⟨⟨⟨⟨⟨h1, h2⟩, h3⟩, h4⟩, h5⟩, h6⟩ := hB
  have hsize : ops.size = n + 2 := of_decide_eq_true h1
  have hdst : ∀ i o, ops[i]? = some o → i < n → o.dst = some (D i) ∧ o.guard = none := fun i o ho hi => by
    have := List.all_eq_true.1 h2 i (List.mem_range.2 hi)
    rw [ho] at this
    simp only [Option.map_some, Option.getD_some, Bool.and_eq_true, decide_eq_true_eq, Option.isNone_iff_eq_none] at this
    exact this
  have hinj : ∀ i j, i < n + 1 → j < n + 1 → D i = D j → i = j := fun i j hi hj => by
    have := List.all_eq_true.1 (List.all_eq_true.1 h5 i (List.mem_range.2 hi)) j (List.mem_range.2 hj)
    exact of_decide_eq_true this
  have hon : ∀ (i : Nat) (o : Oper), ops[i]? = some o → ∀ e ∈ o.after, Region.binds .any e = true → e.on < i := fun i o ho e he hbe => by
    have hi := (Array.getElem?_eq_some_iff.1 ho).1
    have hlt := List.all_eq_true.1 h6 i (List.mem_range.2 hi)
    rw [ho] at hlt
    simp only [Option.map_some, Option.getD_some] at hlt
    have := (Array.all_eq_true_iff_forall_mem.1 hlt) e he
    rw [hbe] at this
    simpa using this
  refine wp_region_keepsB (fun a0 d b wb => Agree (slots (n + 1) D) a0 b ∧ b.tmps.size = a0.tmps.size ∧ ((d n = false ∧ d (n + 1) = false ∧ Below v.heap.size v wb ∧ (∀ i, i < n → d i = true → U i (sl b (D i)) wb) ∧ (d p = true → ∀ i, i < n → d i = true → N i (sl b (D i)) (sl b (D p)) wb)) ∨ ((∀ i, i < n → L i = false → d i = true) ∧ d n = true ∧ d (n + 1) = false ∧ (∀ i, i < n → d i = true → V i (sl b (D i))) ∧ Fin (sl b (D p)) wb) ∨ ((∀ i, i < n + 2 → d i = true) ∧ (∀ i, i < n + 1 → V i (sl b (D i))) ∧ Fin (sl b (D p)) wb))) hm h6 ⟨Agree.refl _ _, rfl, .inl ⟨rfl, rfl, hv.drew, (fun i hi h => by cases h), fun h => by cases h⟩⟩ ?_ ?_
  · intro d b wb i o K ho hd hdep hI hK
    obtain ⟨hA, hbs, hI⟩ := hI
    have hi : i < n + 2 := by rw [← hsize]; exact (Array.getElem?_eq_some_iff.1 ho).1
    by_cases hin : i < n
    · obtain ⟨e1, e2⟩ := hdst i o ho hin
      rcases hI with ⟨hdn, hdn2, hbv, hU, hN⟩ | ⟨hdl, hdn, hdn2, hVV, hF⟩ | ⟨hdn, _⟩
      · have hUd : ∀ e ∈ o.after, Region.binds .any e = true → U e.on (sl b (D e.on)) wb := fun e hee hb => hU e.on (by have := hon i o ho e hee hb; omega) (hdep e hee hb)
        have fin : ∀ x w', Below wb.heap.size wb w' → U i x w' → (i ≠ p → ∀ y, U p y wb → (∀ e ∈ o.after, Region.binds .any e = true → N e.on (sl b (D e.on)) y wb) → N i x y w') → (i = p → ∀ j z, j < n → U j z wb → N j z x w') → K (b.put (some (D i)) x) w' := fun x w' hb hx hq hp2 => hK _ _ ⟨hA.put (mem_slots (by omega)) x, (size_put _ _ _).trans hbs, .inl ⟨by
          show (if n = i then true else d n) = false
          rw [if_neg (by omega)]; exact hdn, by
          show (if n + 1 = i then true else d (n + 1)) = false
          rw [if_neg (by omega)]; exact hdn2, bstep hbv hb hbv.size, (fun j hj hdj => by
          by_cases hji : j = i
          · subst hji
            rw [sl_eq (by rw [hbs]; exact hsz j (by omega))]
            exact hx
          · have hdj : (if j = i then true else d j) = true := hdj
            rw [if_neg hji] at hdj
            rw [sl_ne (fun e => hji (hinj j i (by omega) (by omega) e.symm))]
            exact mono _ _ _ _ hb (hU j hj hdj)), fun hdp0 j hj hdj => by
          have hdp : (if p = i then true else d p) = true := hdp0
          clear hdp0
          have hdj : (if j = i then true else d j) = true := hdj
          by_cases hip : i = p
          · subst hip
            by_cases hji : j = i
            · subst hji; exact hNp _ _ _
            · rw [if_neg hji] at hdj
              rw [sl_ne (fun e => hji (hinj j i (by omega) (by omega) e.symm)), sl_eq (by rw [hbs]; exact hsz i (by omega))]
              exact hp2 rfl j _ hj (hU j hj hdj)
          · rw [if_neg (fun e => hip e.symm)] at hdp
            rw [sl_ne (s := D p) (fun e => hip (hinj i p (by omega) (by omega) e))]
            by_cases hji : j = i
            · subst hji
              rw [sl_eq (by rw [hbs]; exact hsz j (by omega))]
              exact hq hip _ (hU p hp hdp) fun e hee hb2 => hN hdp e.on (by have := hon j o ho e hee hb2; omega) (hdep e hee hb2)
            · rw [if_neg hji] at hdj
              rw [sl_ne (fun e => hji (hinj j i (by omega) (by omega) e.symm))]
              exact monoN j _ _ _ _ hj hb (hN hdp j hj hdj)⟩⟩
        cases hLi : L i with
        | false => exact wpOp_of ho e2 (hstep i o b wb K ho hin hLi hA hbv hUd fin)
        | true => exact wpOp_of ho e2 (hlate i o b wb K ho hin hLi hA (fun e hee hb => hV _ _ _ (by have := hon i o ho e hee hb; omega) (hUd e hee hb)) fun x hx => fin x wb (Below.refl _ _) (hL i x wb hin hLi hx) (fun _ y _ _ => hNL i x y wb hLi) (fun e => by rw [e, hpl] at hLi; cases hLi))
      · have hLi : L i = true := by
          cases hLi : L i with
          | true => rfl
          | false => rw [hdl i hin hLi] at hd; cases hd
        have hpi : p ≠ i := fun e => by rw [← e, hpl] at hLi; cases hLi
        refine wpOp_of ho e2 (hlate i o b wb K ho hin hLi hA (fun e hee hb => hVV _ (by have := hon i o ho e hee hb; omega) (hdep e hee hb)) fun x hx => hK _ _ ⟨hA.put (mem_slots (by omega)) x, (size_put _ _ _).trans hbs, .inr (.inl ⟨fun j hj hLj => ?_, ?_, ?_, fun j hj hdj => ?_, ?_⟩)⟩)
        · show (if j = i then true else d j) = true
          by_cases hji : j = i
          · rw [if_pos hji]
          · rw [if_neg hji]; exact hdl j hj hLj
        · show (if n = i then true else d n) = true
          rw [if_neg (by omega)]; exact hdn
        · show (if n + 1 = i then true else d (n + 1)) = false
          rw [if_neg (by omega)]; exact hdn2
        · by_cases hji : j = i
          · subst hji
            rw [sl_eq (by rw [hbs]; exact hsz j (by omega))]
            exact hx
          · have hdj : (if j = i then true else d j) = true := hdj
            rw [if_neg hji] at hdj
            rw [sl_ne (fun e => hji (hinj j i (by omega) (by omega) e.symm))]
            exact hVV j hj hdj
        · rw [sl_ne (fun e => hpi (hinj p i (by omega) (by omega) e.symm))]
          exact hF
      · rw [hdn i (by omega)] at hd; cases hd
    · by_cases hie : i = n
      · subst hie
        rcases hI with ⟨hdn, hdn2, hbv, hU, hN⟩ | ⟨_, hdn, _⟩ | ⟨hdn, _⟩
        · rw [ho] at h3
          simp only [Option.map_some, Option.getD_some, Bool.and_eq_true, Option.isNone_iff_eq_none] at h3
          obtain ⟨⟨_, e2⟩, h3⟩ := h3
          have hall : ∀ j, j < i → L j = false → d j = true := fun j hj hLj => by
            have := List.all_eq_true.1 h3 j (List.mem_range.2 hj)
            rw [hLj, Bool.false_or] at this
            obtain ⟨k, hk, hke⟩ := Array.any_eq_true.1 this
            simp only [Bool.and_eq_true, decide_eq_true_eq] at hke
            rw [← hke.2]
            exact hdep _ (Array.getElem_mem hk) hke.1
          refine wpOp_of ho e2 (hstore o b wb K ho hA hbv (fun j hj hLj => hU j hj (hall j hj hLj)) (fun j hj hLj => hN (hall p hp hpl) j hj (hall j hj hLj)) fun w' hf => hK _ _ ⟨hA, hbs, .inr (.inl ⟨fun j hj hLj => ?_, ?_, ?_, fun j hj hdj => ?_, hf⟩)⟩)
          · show (if j = i then true else d j) = true
            rw [if_neg (by omega)]; exact hall j hj hLj
          · show (if i = i then true else d i) = true
            rw [if_pos rfl]
          · show (if i + 1 = i then true else d (i + 1)) = false
            rw [if_neg (by omega)]; exact hdn2
          · have hdj : (if j = i then true else d j) = true := hdj
            rw [if_neg (by omega)] at hdj
            exact hV _ _ _ hj (hU j hj hdj)
        · rw [hdn] at hd; cases hd
        · rw [hdn i (by omega)] at hd; cases hd
      · obtain rfl : i = n + 1 := by omega
        rw [ho] at h4
        simp only [Option.map_some, Option.getD_some, Bool.and_eq_true, decide_eq_true_eq, Option.isNone_iff_eq_none] at h4
        obtain ⟨⟨e1, e2⟩, h4⟩ := h4
        have hall : ∀ j, j < n + 1 → d j = true := fun j hj => by
          have := List.all_eq_true.1 h4 j (List.mem_range.2 hj)
          obtain ⟨k, hk, hke⟩ := Array.any_eq_true.1 this
          simp only [Bool.and_eq_true, decide_eq_true_eq] at hke
          rw [← hke.2]
          exact hdep _ (Array.getElem_mem hk) hke.1
        rcases hI with ⟨hdn, _⟩ | ⟨_, hdn, hdn2, hVV, hF⟩ | ⟨hdn, _⟩
        · rw [hall n (by omega)] at hdn; cases hdn
        · exact wpOp_of ho e2 (hlast o b wb K ho hA (fun j hj => hVV j hj (hall j (by omega))) fun x hx => hK _ _ ⟨hA.put (mem_slots (by omega)) x, (size_put _ _ _).trans hbs, .inr (.inr ⟨fun j hj => by
            show (if j = n + 1 then true else d j) = true
            by_cases hji : j = n + 1
            · rw [if_pos hji]
            · rw [if_neg hji]; exact hall j (by omega), fun j hj => by
            by_cases hjn : j = n
            · subst hjn
              rw [sl_eq (by rw [hbs]; exact hsz j (by omega))]
              exact hx
            · rw [sl_ne (fun e => by have := hinj j n (by omega) (by omega) e.symm; omega)]
              exact hVV j (by omega) (hall j (by omega)), by
            rw [sl_ne (fun e => by have := hinj p n (by omega) (by omega) e.symm; omega)]
            exact hF⟩)⟩)
        · rw [hdn (n + 1) (by omega)] at hd; cases hd
  · intro d b wb hall hI
    obtain ⟨hA, hbs, hI⟩ := hI
    rcases hI with ⟨hdn, _⟩ | ⟨_, _, hdn, _⟩ | ⟨_, hVV, hF⟩
    · rw [hall n (by omega)] at hdn; cases hdn
    · rw [hall (n + 1) (by omega)] at hdn; cases hdn
    · exact he b wb hA hVV hF

end Go.Proofs.YthjdeckdklhphaaGreatDoor
