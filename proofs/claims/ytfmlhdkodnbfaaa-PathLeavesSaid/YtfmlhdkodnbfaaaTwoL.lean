/-
  One value, laid into two variables that are made, by a statement whose order is open; two values, laid into two variables that are there.
-/
import Derived.Test.YtfmlhdkodnbfaaaTwoP
import Derived.Test.YtfmlhdkodnbfaaaSpecsLM
set_option linter.unusedVariables false
set_option linter.unusedSimpArgs false
namespace Go.Proofs.Ytfmlhdkodnbfaaa
open Go.RowKit

/-- A variable that holds a value. -/
structure BX (w : World) (g : Nat) (A : Array Value) : Prop where
  row : Row w g 0 A
  frz : ∀ j, w.frozen? ⟨g, j, none⟩ = false
  lt : g < w.heap.size
theorem BX.later {w w' : World} {g : Nat} {A : Array Value} (h : BX w g A) (hb : Below w.heap.size w w') : BX w' g A :=
  ⟨h.row.below hb h.lt, fun j => (hb.frozen (p := ⟨g, j, none⟩) h.lt).trans (h.frz j), Nat.lt_of_lt_of_le h.lt hb.size⟩
theorem BX.other {w : World} {g h : Nat} {A : Array Value} (hb : BX w g A) (hn : g ≠ h) (vs : List Value) : BX (setRow w h 0 vs) g A :=
  ⟨fun j hj => (World.cell?_of_block (setRow_heap _ _ _ _ _ hn)).trans (hb.row j hj), fun j => (World.frozen?_of_block (setRow_heap _ _ _ _ _ hn)).trans (hb.frz j), by rw [setRow_size]; exact hb.lt⟩
theorem BX.store {w : World} {g : Nat} {A B : Array Value} (h : BX w g A) (hA : A.size = 6) (hB : B.size = 6) : BX (setRow w g 0 B.toList) g B :=
  ⟨fun j hj => by
    have := setRow_cell g B.toList w 0 (fun i hi => ⟨A[i]'(by simp at hi; omega), by have := h.row i (by simp at hi; omega); exact this⟩) j (by simpa using hj)
    simpa using this, fun j => (setRow_frozen _ _ _ _ _).trans (h.frz j), by rw [setRow_size]; exact h.lt⟩
theorem BX.ofZB {w : World} {g : Nat} {A : Array Value} (h : ZB w g) (hA : A.size = 6) : BX (setRow w g 0 A.toList) g A :=
  ⟨by have := zb_rows h A.toList (by simpa using hA); simpa using this, fun j => (setRow_frozen _ _ _ _ _).trans (h.frozen j), by rw [setRow_size]; exact h.lt⟩
structure P2 (v : World) (A : Array Value) (d : Nat → Bool) (x0 x1 y6 y7 : Value) (w : World) : Prop where
  below : Below v.heap.size v w
  c0 : d 0 = true → x0 = .agg A
  c1 : d 1 = true → x1 = .agg A
  c2 : d 2 = true → ∃ g, y6 = .pointer (some ⟨g, 0, none⟩) ∧ v.heap.size ≤ g ∧ g < w.heap.size ∧ (d 4 = false → ZB w g) ∧ (d 4 = true → BX w g A)
  c3 : d 3 = true → ∃ g, y7 = .pointer (some ⟨g, 0, none⟩) ∧ v.heap.size ≤ g ∧ g < w.heap.size ∧ (d 5 = false → ZB w g) ∧ (d 5 = true → BX w g A)
  ne : d 2 = true → d 3 = true → y6 ≠ y7
  k4 : d 4 = true → d 2 = true ∧ d 3 = true
  k5 : d 5 = true → d 3 = true
section
variable {v : World} {A : Array Value} {d : Nat → Bool} {x0 x1 y6 y7 : Value} {w w' : World}
theorem P2.start {v0 : World} (hb : Below v.heap.size v v0) (x0 x1 y6 y7 : Value) : P2 v A (fun _ => false) x0 x1 y6 y7 v0 := ⟨hb, by simp, by simp, by simp, by simp, by simp, by simp, by simp⟩
theorem P2.later (h : P2 v A d x0 x1 y6 y7 w) (hb : Below w.heap.size w w') : P2 v A d x0 x1 y6 y7 w' :=
  ⟨bstep h.below hb h.below.size, h.c0, h.c1, fun e => by
    obtain ⟨g, e1, e2, e3, e4, e5⟩ := h.c2 e
    exact ⟨g, e1, e2, Nat.lt_of_lt_of_le e3 hb.size, fun q => (e4 q).later hb, fun q => (e5 q).later hb⟩, fun e => by
    obtain ⟨g, e1, e2, e3, e4, e5⟩ := h.c3 e
    exact ⟨g, e1, e2, Nat.lt_of_lt_of_le e3 hb.size, fun q => (e4 q).later hb, fun q => (e5 q).later hb⟩, h.ne, h.k4, h.k5⟩
theorem P2.at0 (h : P2 v A d x0 x1 y6 y7 w) : P2 v A (upd d 0) (.agg A) x1 y6 y7 w :=
  ⟨h.below, fun _ => rfl, fun e => h.c1 (by simpa [upd] using e), fun e => by simpa [upd] using h.c2 (by simpa [upd] using e), fun e => by simpa [upd] using h.c3 (by simpa [upd] using e), fun e1 e2 => h.ne (by simpa [upd] using e1) (by simpa [upd] using e2), fun e => by simpa [upd] using h.k4 (by simpa [upd] using e), fun e => by simpa [upd] using h.k5 (by simpa [upd] using e)⟩
theorem P2.at1 (h : P2 v A d x0 x1 y6 y7 w) : P2 v A (upd d 1) x0 (.agg A) y6 y7 w :=
  ⟨h.below, fun e => h.c0 (by simpa [upd] using e), fun _ => rfl, fun e => by simpa [upd] using h.c2 (by simpa [upd] using e), fun e => by simpa [upd] using h.c3 (by simpa [upd] using e), fun e1 e2 => h.ne (by simpa [upd] using e1) (by simpa [upd] using e2), fun e => by simpa [upd] using h.k4 (by simpa [upd] using e), fun e => by simpa [upd] using h.k5 (by simpa [upd] using e)⟩
theorem P2.at2 (h : P2 v A d x0 x1 y6 y7 w) (hd : d 2 = false) : P2 v A (upd d 2) x0 x1 (.pointer (some ⟨w.heap.size, 0, none⟩)) y7 (w.alloc (.cells zeroA 25)) := by
  have hb := (Below.refl w.heap.size w).alloc (Nat.le_refl _) (.cells zeroA 25)
  have h2 := h.later hb
  have h4 : d 4 = false := by
    cases q : d 4 with
    | false => rfl
    | true => rw [(h.k4 q).1] at hd; cases hd
  refine ⟨h2.below, fun e => h2.c0 (by simpa [upd] using e), fun e => h2.c1 (by simpa [upd] using e), fun _ => ⟨w.heap.size, rfl, h.below.size, by simp, fun _ => ZB.new w, fun q => by simp [upd, h4] at q⟩, fun e => by simpa [upd] using h2.c3 (by simpa [upd] using e), fun _ e2 => ?_, fun e => ?_, fun e => by simpa [upd] using h.k5 (by simpa [upd] using e)⟩
  · obtain ⟨g, e1, _, e3, _⟩ := h.c3 (by simpa [upd] using e2)
    rw [e1]
    intro q
    injection q with q
    injection q with q
    injection q with q
    omega
  · simp [upd, h4] at e
theorem P2.at3 (h : P2 v A d x0 x1 y6 y7 w) (hd : d 3 = false) : P2 v A (upd d 3) x0 x1 y6 (.pointer (some ⟨w.heap.size, 0, none⟩)) (w.alloc (.cells zeroA 25)) := by
  have hb := (Below.refl w.heap.size w).alloc (Nat.le_refl _) (.cells zeroA 25)
  have h2 := h.later hb
  have h5 : d 5 = false := by
    cases q : d 5 with
    | false => rfl
    | true => rw [h.k5 q] at hd; cases hd
  have h4 : d 4 = false := by
    cases q : d 4 with
    | false => rfl
    | true => rw [(h.k4 q).2] at hd; cases hd
  refine ⟨h2.below, fun e => h2.c0 (by simpa [upd] using e), fun e => h2.c1 (by simpa [upd] using e), fun e => by simpa [upd] using h2.c2 (by simpa [upd] using e), fun _ => ⟨w.heap.size, rfl, h.below.size, by simp, fun _ => ZB.new w, fun q => by simp [upd, h5] at q⟩, fun e1 _ => ?_, fun e => ?_, fun e => ?_⟩
  · obtain ⟨g, e1, _, e3, _⟩ := h.c2 (by simpa [upd] using e1)
    rw [e1]
    intro q
    injection q with q
    injection q with q
    injection q with q
    omega
  · simp [upd, h4] at e
  · simp [upd, h5] at e
theorem P2.at4 (h : P2 v A d x0 x1 y6 y7 w) (h6 : A.size = 6) (d2 : d 2 = true) (d3 : d 3 = true) (d4 : d 4 = false) : ∃ g, y6 = .pointer (some ⟨g, 0, none⟩) ∧ ZB w g ∧ P2 v A (upd d 4) x0 x1 y6 y7 (setRow w g 0 A.toList) := by
  obtain ⟨g, e1, e2, e3, e4, _⟩ := h.c2 d2
  obtain ⟨g', f1, f2, f3, f4, f5⟩ := h.c3 d3
  have hne : g' ≠ g := fun e => h.ne d2 d3 (by rw [e1, f1, e])
  have hz := e4 d4
  have hr := BX.ofZB hz h6
  refine ⟨g, e1, hz, setRow_below _ e2 _ _ _ h.below, fun e => h.c0 (by simpa [upd] using e), fun e => h.c1 (by simpa [upd] using e), fun _ => ⟨g, e1, e2, by rw [setRow_size]; exact e3, fun q => by simp [upd] at q, fun _ => hr⟩, fun _ => ⟨g', f1, f2, by rw [setRow_size]; exact f3, fun q => zb_row (f4 (by simpa [upd] using q)) hne _, fun q => (f5 (by simpa [upd] using q)).other hne _⟩, fun e1 e2 => h.ne (by simpa [upd] using e1) (by simpa [upd] using e2), fun _ => by simp [upd, d2, d3], fun e => by simpa [upd] using h.k5 (by simpa [upd] using e)⟩
theorem P2.at5 (h : P2 v A d x0 x1 y6 y7 w) (h6 : A.size = 6) (d2 : d 2 = true) (d3 : d 3 = true) (d5 : d 5 = false) : ∃ g, y7 = .pointer (some ⟨g, 0, none⟩) ∧ ZB w g ∧ P2 v A (upd d 5) x0 x1 y6 y7 (setRow w g 0 A.toList) := by
  obtain ⟨g', f1, f2, f3, f4, f5⟩ := h.c2 d2
  obtain ⟨g, e1, e2, e3, e4, _⟩ := h.c3 d3
  have hne : g' ≠ g := fun e => h.ne d2 d3 (by rw [e1, f1, e])
  have hz := e4 d5
  have hr := BX.ofZB hz h6
  refine ⟨g, e1, hz, setRow_below _ e2 _ _ _ h.below, fun e => h.c0 (by simpa [upd] using e), fun e => h.c1 (by simpa [upd] using e), fun _ => ⟨g', f1, f2, by rw [setRow_size]; exact f3, fun q => zb_row (f4 (by simpa [upd] using q)) hne _, fun q => (f5 (by simpa [upd] using q)).other hne _⟩, fun _ => ⟨g, e1, e2, by rw [setRow_size]; exact e3, fun q => by simp [upd] at q, fun _ => hr⟩, fun e1 e2 => h.ne (by simpa [upd] using e1) (by simpa [upd] using e2), fun e => by simpa [upd] using h.k4 (by simpa [upd] using e), fun _ => by simp [upd, d3]⟩
theorem P2.all (h : P2 v A d x0 x1 y6 y7 w) (hd : ∀ i, i < 6 → d i = true) : ∃ g g', y6 = .pointer (some ⟨g, 0, none⟩) ∧ y7 = .pointer (some ⟨g', 0, none⟩) ∧ g ≠ g' ∧ v.heap.size ≤ g ∧ v.heap.size ≤ g' ∧ g < w.heap.size ∧ g' < w.heap.size ∧ BX w g A ∧ BX w g' A ∧ Below v.heap.size v w := by
  obtain ⟨g', f1, f2, f3, f4, f5⟩ := h.c2 (hd 2 (by omega))
  obtain ⟨g, e1, e2, e3, e4, e5⟩ := h.c3 (hd 3 (by omega))
  exact ⟨g', g, f1, e1, fun e => h.ne (hd 2 (by omega)) (hd 3 (by omega)) (by rw [e1, f1, e]), f2, e2, f3, e3, f5 (hd 4 (by omega)), e5 (hd 5 (by omega)), h.below⟩
end

/-- n values; a store; another one behind it, which waits for all. -/
def specsM (ops : Array Oper) (n : Nat) (D : Nat → Tmp) : Bool :=
  decide (ops.size = n + 2) && (List.range n).all (fun i => ((ops[i]?).map fun o => decide (o.dst = some (D i)) && o.guard.isNone).getD false) &&
  ((ops[n]?).map fun o => o.dst.isNone && o.guard.isNone && (List.range n).all fun i => (List.range (n + 1)).any fun j => decide (i < j) && ((ops[j]?).map fun o2 => o2.after.any fun e => Region.binds .any e && decide (e.on = i)).getD false).getD false &&
  ((ops[n + 1]?).map fun o => o.dst.isNone && o.guard.isNone && o.after.any fun e => Region.binds .any e && decide (e.on = n)).getD false &&
  (List.range n).all (fun i => (List.range n).all fun j => decide (D i = D j → i = j)) &&
  (List.range ops.size).all (fun i => ((ops[i]?).map fun o => o.after.all fun e => !Region.binds .any e || decide (e.on < i)).getD true)

theorem wp_region_specsM {P : Program} {ops : Array Oper} {Q : Exit → Act → World → Prop} {id : Nat} {a : Act} {w : World} (v : World) (n : Nat) (D : Nat → Tmp) (U : Nat → Value → World → Prop) (Fin1 Fin2 : Act → World → Prop)
    (hm : P.follows .mixedOrders = true) (hB : specsM ops n D = true) (hsz : ∀ i, i < n → D i < a.tmps.size) (hv : Below v.heap.size v w)
    (mono : ∀ i x w w', Below w.heap.size w w' → U i x w → U i x w')
    (hstep : ∀ i o b wb (K : Act → World → Prop), ops[i]? = some o → i < n → Agree (slots n D) a b → Below v.heap.size v wb → (∀ e ∈ o.after, Region.binds .any e = true → U e.on (sl b (D e.on)) wb) → (∀ x w', Below wb.heap.size wb w' → U i x w' → K (b.put (some (D i)) x) w') → o.wp P b wb K Q)
    (hone : ∀ o b wb (K : Act → World → Prop), ops[n]? = some o → Agree (slots n D) a b → Below v.heap.size v wb → (∀ i, i < n → U i (sl b (D i)) wb) → (∀ w', Fin1 b w' → K b w') → o.wp P b wb K Q)
    (htwo : ∀ o b wb (K : Act → World → Prop), ops[n + 1]? = some o → Agree (slots n D) a b → Fin1 b wb → (∀ w', Fin2 b w' → K b w') → o.wp P b wb K Q)
    (he : ∀ b wb, Agree (slots n D) a b → Fin2 b wb → Q .normal b wb) : (Code.region id ops true).wp P Q a w := by
  unfold specsM at hB
  simp only [Bool.and_eq_true] at hB
  obtain ⟨⟨⟨⟨⟨h1, h2⟩, h3⟩, h4⟩, h5⟩, h6⟩ := hB
  have hsize : ops.size = n + 2 := of_decide_eq_true h1
  have hdst : ∀ i o, ops[i]? = some o → i < n → o.dst = some (D i) ∧ o.guard = none := fun i o ho hi => by
    have := List.all_eq_true.1 h2 i (List.mem_range.2 hi)
    rw [ho] at this
    simp only [Option.map_some, Option.getD_some, Bool.and_eq_true, decide_eq_true_eq, Option.isNone_iff_eq_none] at this
    exact this
  have hinj : ∀ i j, i < n → j < n → D i = D j → i = j := fun i j hi hj => by
    have := List.all_eq_true.1 (List.all_eq_true.1 h5 i (List.mem_range.2 hi)) j (List.mem_range.2 hj)
    exact of_decide_eq_true this
  have hon : ∀ (i : Nat) (o : Oper), ops[i]? = some o → ∀ e ∈ o.after, Region.binds .any e = true → e.on < i := fun i o ho e he hbe => by
    have hi := (Array.getElem?_eq_some_iff.1 ho).1
    have hlt := List.all_eq_true.1 h6 i (List.mem_range.2 hi)
    rw [ho] at hlt
    simp only [Option.map_some, Option.getD_some] at hlt
    have := (Array.all_eq_true_iff_forall_mem.1 hlt) e he
    rw [hbe] at this
    simpa using this
  refine wp_region_keepsB (fun a0 d b wb => (∀ i o, ops[i]? = some o → d i = true → ∀ e ∈ o.after, Region.binds .any e = true → d e.on = true) ∧ Agree (slots n D) a0 b ∧ b.tmps.size = a0.tmps.size ∧ ((d n = false ∧ d (n + 1) = false ∧ Below v.heap.size v wb ∧ ∀ i, i < n → d i = true → U i (sl b (D i)) wb) ∨ ((∀ i, i < n + 1 → d i = true) ∧ d (n + 1) = false ∧ Fin1 b wb) ∨ ((∀ i, i < n + 2 → d i = true) ∧ Fin2 b wb))) hm h6 ⟨(fun i o _ h => by cases h), Agree.refl _ _, rfl, .inl ⟨rfl, rfl, hv.drew, fun i hi h => by cases h⟩⟩ ?_ ?_
  · intro d b wb i o K ho hd hdep hI hK
    obtain ⟨hcl, hA, hbs, hI⟩ := hI
    have hcl2 : ∀ i2 o2, ops[i2]? = some o2 → (if i2 = i then true else d i2) = true → ∀ e ∈ o2.after, Region.binds .any e = true → (if e.on = i then true else d e.on) = true := fun i2 o2 ho2 hd2 e he hb => by
      by_cases h1 : e.on = i
      · rw [if_pos h1]
      · rw [if_neg h1]
        by_cases h2 : i2 = i
        · subst h2
          obtain rfl := Option.some.inj (ho2.symm.trans ho)
          exact hdep e he hb
        · rw [if_neg h2] at hd2
          exact hcl i2 o2 ho2 hd2 e he hb
    have hi : i < n + 2 := by rw [← hsize]; exact (Array.getElem?_eq_some_iff.1 ho).1
    by_cases hin : i < n
    · rcases hI with ⟨hdn, hdn2, hbv, hU⟩ | ⟨hdn, _⟩ | ⟨hdn, _⟩
      · obtain ⟨e1, e2⟩ := hdst i o ho hin
        refine wpOp_of ho e2 (hstep i o b wb K ho hin hA hbv (fun e hee hb => hU e.on (by have := hon i o ho e hee hb; omega) (hdep e hee hb)) fun x w' hb hx => hK _ _ ⟨hcl2, hA.put (mem_slots hin) x, (size_put _ _ _).trans hbs, .inl ⟨?_, ?_, bstep hbv hb hbv.size, fun j hj hdj => ?_⟩⟩)
        · show (if n = i then true else d n) = false
          rw [if_neg (by omega)]; exact hdn
        · show (if n + 1 = i then true else d (n + 1)) = false
          rw [if_neg (by omega)]; exact hdn2
        · by_cases hji : j = i
          · subst hji
            rw [sl_eq (by rw [hbs]; exact hsz j hj)]
            exact hx
          · have hdj : (if j = i then true else d j) = true := hdj
            rw [if_neg hji] at hdj
            rw [sl_ne (fun e => hji (hinj j i hj hin e.symm))]
            exact mono _ _ _ _ hb (hU j hj hdj)
      · rw [hdn i (by omega)] at hd; cases hd
      · rw [hdn i (by omega)] at hd; cases hd
    · by_cases hie : i = n
      · subst hie
        rcases hI with ⟨hdn, hdn2, hbv, hU⟩ | ⟨hdn, _⟩ | ⟨hdn, _⟩
        · rw [ho] at h3
          simp only [Option.map_some, Option.getD_some, Bool.and_eq_true, Option.isNone_iff_eq_none] at h3
          obtain ⟨⟨_, e2⟩, h3⟩ := h3
          have hall : ∀ c j, j < i → i - j ≤ c → d j = true := fun c => by
            induction c with
            | zero => intro j hj hc; omega
            | succ c ih =>
              intro j hj hc
              have := List.all_eq_true.1 h3 j (List.mem_range.2 hj)
              obtain ⟨k, hk, hke⟩ := List.any_eq_true.1 this
              simp only [Bool.and_eq_true, decide_eq_true_eq] at hke
              obtain ⟨hjk, hke⟩ := hke
              have hkn := List.mem_range.1 hk
              cases hok : ops[k]? with
              | none => rw [hok] at hke; cases hke
              | some ok =>
                rw [hok] at hke
                simp only [Option.map_some, Option.getD_some] at hke
                obtain ⟨q, hq, hqe⟩ := Array.any_eq_true.1 hke
                simp only [Bool.and_eq_true, decide_eq_true_eq] at hqe
                by_cases hki : k = i
                · subst hki
                  obtain rfl := Option.some.inj (hok.symm.trans ho)
                  rw [← hqe.2]
                  exact hdep _ (Array.getElem_mem hq) hqe.1
                · rw [← hqe.2]
                  exact hcl k ok hok (ih k (by omega) (by omega)) _ (Array.getElem_mem hq) hqe.1
          have hall : ∀ j, j < i → d j = true := fun j hj => hall (i - j) j hj (Nat.le_refl _)
          refine wpOp_of ho e2 (hone o b wb K ho hA hbv (fun j hj => hU j hj (hall j hj)) fun w' hf => hK _ _ ⟨hcl2, hA, hbs, .inr (.inl ⟨fun j hj => ?_, ?_, hf⟩)⟩)
          · show (if j = i then true else d j) = true
            by_cases hji : j = i
            · rw [if_pos hji]
            · rw [if_neg hji]; exact hall j (by omega)
          · show (if i + 1 = i then true else d (i + 1)) = false
            rw [if_neg (by omega)]; exact hdn2
        · rw [hdn i (by omega)] at hd; cases hd
        · rw [hdn i (by omega)] at hd; cases hd
      · obtain rfl : i = n + 1 := by omega
        rw [ho] at h4
        simp only [Option.map_some, Option.getD_some, Bool.and_eq_true, Option.isNone_iff_eq_none] at h4
        obtain ⟨⟨_, e2⟩, h4⟩ := h4
        obtain ⟨k, hk, hke⟩ := Array.any_eq_true.1 h4
        simp only [Bool.and_eq_true, decide_eq_true_eq] at hke
        have hdn1 := hdep _ (Array.getElem_mem hk) hke.1
        rw [hke.2] at hdn1
        rcases hI with ⟨hdn, _⟩ | ⟨hdn, hdn2, hF⟩ | ⟨hdn, _⟩
        · rw [hdn] at hdn1; cases hdn1
        · exact wpOp_of ho e2 (htwo o b wb K ho hA hF fun w' hf => hK _ _ ⟨hcl2, hA, hbs, .inr (.inr ⟨fun j hj => by
            show (if j = n + 1 then true else d j) = true
            by_cases hji : j = n + 1
            · rw [if_pos hji]
            · rw [if_neg hji]; exact hdn j (by omega), hf⟩)⟩)
        · rw [hdn (n + 1) (by omega)] at hd; cases hd
  · intro d b wb hall hI
    obtain ⟨_, hA, hbs, hI⟩ := hI
    rcases hI with ⟨hdn, _⟩ | ⟨_, hdn, _⟩ | ⟨_, hF⟩
    · rw [hall n (by omega)] at hdn; cases hdn
    · rw [hall (n + 1) (by omega)] at hdn; cases hdn
    · exact he b wb hA hF

end Go.Proofs.Ytfmlhdkodnbfaaa
