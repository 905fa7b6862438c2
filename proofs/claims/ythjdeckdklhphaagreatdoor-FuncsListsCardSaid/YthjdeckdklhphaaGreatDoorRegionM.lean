/-
  A region that draws its order: what holds ahead, and is kept by whatever operation comes next, holds behind it.
-/
import Derived.Test.YthjdeckdklhphaaGreatDoorVals
import Derived.Orders
set_option linter.unusedVariables false
set_option linter.unusedSimpArgs false
namespace Go.Proofs.YthjdeckdklhphaaGreatDoor
open Go.RowKit

section
variable {P : Program} {ops : Array Oper} {Q : Exit → Act → World → Prop}

theorem count_set {l : Array Bool} {i : Nat} (hi : i < l.size) (h : l.getD i true = false) : (l.setIfInBounds i true).toList.count false + 1 = l.toList.count false := by
  have e : l[i] = false := by simpa [Array.getD, hi] using h
  rw [Array.toList_setIfInBounds]
  have h1 : i < l.toList.length := by simpa using hi
  have := List.count_set (a := true) (b := false) (l := l.toList) (i := i) h1
  have hg : l.toList[i] = false := by simpa using e
  rw [this, hg]
  have : 0 < l.toList.count false := List.count_pos_iff.2 (by
    have hm : l.toList[i] ∈ l.toList := List.getElem_mem h1
    rwa [hg] at hm)
  have e1 : (if ((false : Bool) == false) = true then 1 else 0) = 1 := rfl
  have e2 : (if ((true : Bool) == false) = true then 1 else 0) = 0 := rfl
  rw [e1, e2]
  omega

theorem getD_set {l : Array Bool} {i : Nat} (hi : i < l.size) (k : Nat) : (l.setIfInBounds i true).getD k false = if k = i then true else l.getD k false := by
  by_cases h : k = i
  · subst h
    simp [Array.getD, hi]
  · rw [if_neg h, getD_set_ne false (fun e => h e.symm)]

theorem wpAny_inv (Inv : (Nat → Bool) → Act → World → Prop)
    (hs : ∀ d a w i o, ops[i]? = some o → d i = false → (∀ e ∈ o.after, Region.binds .any e = true → d e.on = true) → Inv d a w → wpOp P ops Q i (Inv fun k => if k = i then true else d k) a w)
    (he : ∀ l a w, l.size = ops.size → Inv (fun k => l.getD k false) a w → Region.ready .any ops l = [] → Q .normal a w) :
    ∀ (fuel : Nat) (l : Array Bool) (a : Act) (w : World), l.size = ops.size → l.toList.count false ≤ fuel → Inv (fun k => l.getD k false) a w → wpAny P .any ops Q fuel l a w
  | 0, l, a, w, hz, hc, h => by
    have hr : Region.ready .any ops l = [] := by
      apply List.eq_nil_iff_forall_not_mem.2
      intro j hj
      obtain ⟨h0, o, ho, _⟩ := mem_ready.1 hj
      have hj2 : j < l.size := by rw [hz]; exact (Array.getElem?_eq_some_iff.1 ho).1
      have e : l[j] = false := by simpa [Array.getD, hj2] using h0
      have : 0 < l.toList.count false := List.count_pos_iff.2 (by
        have : l.toList[j]'(by simpa using hj2) = false := by simpa using e
        rw [← this]; exact List.getElem_mem _)
      omega
    exact ⟨hr, he l a w hz h hr⟩
  | fuel + 1, l, a, w, hz, hc, h => by
    refine ⟨he l a w hz h, fun i hi => ?_⟩
    obtain ⟨h0, o, ho, hd⟩ := mem_ready.1 hi
    have hi2 : i < l.size := by rw [hz]; exact (Array.getElem?_eq_some_iff.1 ho).1
    have h0' : l.getD i false = false := by simpa [Array.getD, hi2] using h0
    refine wpOp_mono (fun a' w' hk => ?_) (hs _ a w i o ho h0' hd h)
    refine wpAny_inv Inv hs he fuel _ a' w' (by simpa using hz) (by have := count_set hi2 h0; omega) ?_
    have : (fun k => (l.setIfInBounds i true).getD k false) = fun k => if k = i then true else l.getD k false := funext fun k => getD_set hi2 k
    rw [this]
    exact hk

theorem ready_nil {l : Array Bool} (hz : l.size = ops.size) (hlt : ∀ (i : Nat) (o : Oper), ops[i]? = some o → ∀ e ∈ o.after, e.on < i) (h : Region.ready .any ops l = []) : ∀ i, i < ops.size → l.getD i false = true := by
  intro i
  induction i using Nat.strongRecOn with
  | ind i ih =>
    intro hi
    cases hd : l.getD i false with
    | true => rfl
    | false =>
      have hi2 : i < l.size := by omega
      have h0 : l.getD i true = false := by simpa [Array.getD, hi2] using hd
      have hm : i ∈ Region.ready .any ops l := mem_ready.2 ⟨h0, ops[i], Array.getElem?_eq_getElem hi, fun e he _ => ih e.on (hlt i _ (Array.getElem?_eq_getElem hi) e he) (by have := hlt i _ (Array.getElem?_eq_getElem hi) e he; omega)⟩
      rw [h] at hm
      cases hm

/-- THE RULE: kept by whatever operation may come next, an invariant holds where all are done. -/
theorem wp_region_inv {id : Nat} {a : Act} {w : World} (Inv : (Nat → Bool) → Act → World → Prop) (hm : P.follows .mixedOrders = true) (hlt : (List.range ops.size).all (fun i => ((ops[i]?).map fun o => o.after.all fun e => decide (e.on < i)).getD true) = true)
    (h0 : Inv (fun _ => false) a w.drew)
    (hs : ∀ d a w i o, ops[i]? = some o → d i = false → (∀ e ∈ o.after, Region.binds .any e = true → d e.on = true) → Inv d a w → wpOp P ops Q i (Inv fun k => if k = i then true else d k) a w)
    (he : ∀ d a w, (∀ i, i < ops.size → d i = true) → Inv d a w → Q .normal a w) : (Code.region id ops true).wp P Q a w := by
  refine wp_region_any hm (wpAny_inv Inv hs (fun l a w hz hi hr => he _ a w (ready_nil hz (fun i o ho e hee => ?_) hr) hi) _ _ a _ (by simp) (by simp) ?_)
  · have hi : i < ops.size := (Array.getElem?_eq_some_iff.1 ho).1
    have h1 := List.all_eq_true.1 hlt i (List.mem_range.2 hi)
    rw [ho] at h1
    simp only [Option.map_some, Option.getD_some] at h1
    have := (Array.all_eq_true_iff_forall_mem.1 h1) e hee
    simpa using this
  · have : (fun k => (Array.replicate ops.size false).getD k false) = fun _ => false := funext fun k => by
      simp [Array.getD]
    rw [this]
    exact h0

theorem wpOp_of {i : Nat} {o : Oper} {a : Act} {w : World} {K : Act → World → Prop} (ho : ops[i]? = some o) (hg : o.guard = none) (h : o.wp P a w K Q) : wpOp P ops Q i K a w := by
  unfold wpOp
  rw [ho]
  have hw : Region.wanted o (yielded ops a.tmps) = true := by simp [Region.wanted, hg]
  simp only [hw, if_true]
  exact .inl h

/-- .. the invariant knowing the act at its head. -/
theorem wp_region_keeps {id : Nat} {a : Act} {w : World} (Inv : Act → (Nat → Bool) → Act → World → Prop) (hm : P.follows .mixedOrders = true) (hlt : (List.range ops.size).all (fun i => ((ops[i]?).map fun o => o.after.all fun e => decide (e.on < i)).getD true) = true)
    (h0 : Inv a (fun _ => false) a w.drew)
    (hs : ∀ d b w i o (K : Act → World → Prop), ops[i]? = some o → d i = false → (∀ e ∈ o.after, Region.binds .any e = true → d e.on = true) → Inv a d b w → (∀ b' w', Inv a (fun k => if k = i then true else d k) b' w' → K b' w') → wpOp P ops Q i K b w)
    (he : ∀ d b w, (∀ i, i < ops.size → d i = true) → Inv a d b w → Q .normal b w) : (Code.region id ops true).wp P Q a w :=
  wp_region_inv (Inv a) hm hlt h0 (fun d b w i o h1 h2 h3 h4 => hs d b w i o _ h1 h2 h3 h4 fun _ _ h => h) he
end

/-- The same act, but for these slots. -/
structure Agree (L : List Tmp) (a b : Act) : Prop where
  size : b.tmps.size = a.tmps.size
  defers : b.defers = a.defers
  slot : ∀ t, t ∉ L → b.tmps[t]? = a.tmps[t]?
theorem Agree.refl (L : List Tmp) (a : Act) : Agree L a a := ⟨rfl, rfl, fun _ _ => rfl⟩
theorem Agree.put {L : List Tmp} {a b : Act} (h : Agree L a b) {t : Tmp} (ht : t ∈ L) (v : Value) : Agree L a (b.put (some t) v) :=
  ⟨by simp [Act.put, h.size], h.defers, fun s hs => by
    have hne : t ≠ s := fun e => hs (e ▸ ht)
    rw [← h.slot s hs]
    simp [Act.put, Array.getElem?_setIfInBounds_ne hne]⟩
theorem Agree.none {L : List Tmp} {a b : Act} (h : Agree L a b) (v : Value) : Agree L a (b.put Option.none v) := h
/-- What a slot holds. -/
def sl (a : Act) (t : Tmp) : Value := a.tmps[t]?.getD undef
theorem sl_eq {a : Act} {t : Tmp} (ht : t < a.tmps.size) (v : Value) : sl (a.put (some t) v) t = v := by
  simp [Act.put, sl, Array.getElem?_setIfInBounds_self_of_lt ht]
theorem sl_ne {a : Act} {t s : Tmp} (h : t ≠ s) (v : Value) : sl (a.put (some t) v) s = sl a s := by
  simp [Act.put, sl, Array.getElem?_setIfInBounds_ne h]
theorem sl_if {a : Act} {t s : Tmp} (ht : t < a.tmps.size) (v : Value) : sl (a.put (some t) v) s = if t = s then v else sl a s := by
  by_cases h : t = s
  · subst h; rw [if_pos rfl, sl_eq ht]
  · rw [if_neg h, sl_ne h]
theorem sl_none {a : Act} {s : Tmp} (v : Value) : sl (a.put Option.none v) s = sl a s := rfl
theorem size_put (a : Act) (t : Option Tmp) (v : Value) : (a.put t v).tmps.size = a.tmps.size := by
  cases t <;> simp [Act.put]
/-- The act is the first one, with its slots laid. -/
theorem Agree.act {L : List Tmp} {a b : Act} (h : Agree L a b) (hL : ∀ t ∈ L, t < a.tmps.size) : b = L.foldl (fun c t => c.put (some t) (sl b t)) a := by
  have key : ∀ (M : List Tmp) (c : Act), c.tmps.size = a.tmps.size → c.defers = b.defers → (∀ t ∈ M, t < a.tmps.size) → (∀ t, t ∉ M → b.tmps[t]? = c.tmps[t]?) → b = M.foldl (fun c t => c.put (some t) (sl b t)) c := by
    intro M
    induction M with
    | nil =>
      intro c hs hd _ hc
      obtain ⟨ct, cd⟩ := c
      obtain ⟨bt, bd⟩ := b
      have e1 : bt = ct := Array.ext_getElem? fun i => hc i (by simp)
      have e2 : cd = bd := hd
      simp [e1, e2]
    | cons t M ih =>
      intro c hs hd hlt hc
      rw [List.foldl_cons]
      have ht : t < c.tmps.size := by rw [hs]; exact hlt t (by simp)
      refine ih _ (by simp [Act.put, hs]) hd (fun s hsM => hlt s (by simp [hsM])) fun s hsM => ?_
      by_cases e : t = s
      · subst e
        have hb : t < b.tmps.size := by rw [h.size]; exact hlt t (by simp)
        simp [Act.put, sl, Array.getElem?_setIfInBounds_self_of_lt ht, Array.getElem?_eq_getElem hb]
      · simp only [Act.put, Array.getElem?_setIfInBounds_ne e]
        exact hc s (by simp [hsM, Ne.symm e])
  exact key L a rfl h.defers.symm hL h.slot

end Go.Proofs.YthjdeckdklhphaaGreatDoor

/-
  A region that draws its order, ends in one store, and whose other operations each lay a value of which something is known that later worlds keep.
-/
set_option linter.unusedVariables false
set_option linter.unusedSimpArgs false
namespace Go.Proofs.YthjdeckdklhphaaGreatDoor
open Go.RowKit

/-- The slots that the first n operations write are D 0, D 1, ..; none is guarded; the last one waits for all of them. -/
def specsB (ops : Array Oper) (n : Nat) (D : Nat → Tmp) : Bool :=
  decide (ops.size = n + 1) && (List.range n).all (fun i => ((ops[i]?).map fun o => decide (o.dst = some (D i)) && o.guard.isNone).getD false) &&
  ((ops[n]?).map fun o => o.dst.isNone && o.guard.isNone && (List.range n).all fun i => o.after.any fun e => Region.binds .any e && decide (e.on = i)).getD false &&
  (List.range n).all (fun i => (List.range n).all fun j => decide (D i = D j → i = j)) &&
  (List.range ops.size).all (fun i => ((ops[i]?).map fun o => o.after.all fun e => decide (e.on < i)).getD true)

def slots (n : Nat) (D : Nat → Tmp) : List Tmp := (List.range n).map D
theorem mem_slots {n : Nat} {D : Nat → Tmp} {i : Nat} (h : i < n) : D i ∈ slots n D := List.mem_map.2 ⟨i, List.mem_range.2 h, rfl⟩
theorem Agree.sl {L : List Tmp} {a b : Act} (h : Agree L a b) {t : Tmp} (ht : t ∉ L) : sl b t = Go.Proofs.YthjdeckdklhphaaGreatDoor.sl a t := by
  unfold Go.Proofs.YthjdeckdklhphaaGreatDoor.sl
  rw [h.slot t ht]

theorem wp_region_specs {P : Program} {ops : Array Oper} {Q : Exit → Act → World → Prop} {id : Nat} {a : Act} {w : World} (v : World) (n : Nat) (D : Nat → Tmp) (U : Nat → Value → World → Prop) (Fin : Act → World → Prop)
    (hm : P.follows .mixedOrders = true) (hB : specsB ops n D = true) (hsz : ∀ i, i < n → D i < a.tmps.size) (hv : Below v.heap.size v w)
    (mono : ∀ i x w w', Below w.heap.size w w' → U i x w → U i x w')
    (hstep : ∀ i o b wb (K : Act → World → Prop), ops[i]? = some o → i < n → Agree (slots n D) a b → Below v.heap.size v wb → (∀ e ∈ o.after, Region.binds .any e = true → U e.on (sl b (D e.on)) wb) → (∀ x w', Below wb.heap.size wb w' → U i x w' → K (b.put (some (D i)) x) w') → o.wp P b wb K Q)
    (hlast : ∀ o b wb (K : Act → World → Prop), ops[n]? = some o → Agree (slots n D) a b → Below v.heap.size v wb → (∀ i, i < n → U i (sl b (D i)) wb) → (∀ w', Fin b w' → K b w') → o.wp P b wb K Q)
    (he : ∀ b wb, Agree (slots n D) a b → Fin b wb → Q .normal b wb) : (Code.region id ops true).wp P Q a w := by
  unfold specsB at hB
  simp only [Bool.and_eq_true] at hB
  obtain ⟨⟨⟨⟨h1, h2⟩, h3⟩, h4⟩, h5⟩ := hB
  have hsize : ops.size = n + 1 := of_decide_eq_true h1
  have hdst : ∀ i o, ops[i]? = some o → i < n → o.dst = some (D i) ∧ o.guard = none := fun i o ho hi => by
    have := List.all_eq_true.1 h2 i (List.mem_range.2 hi)
    rw [ho] at this
    simp only [Option.map_some, Option.getD_some, Bool.and_eq_true, decide_eq_true_eq, Option.isNone_iff_eq_none] at this
    exact this
  have hinj : ∀ i j, i < n → j < n → D i = D j → i = j := fun i j hi hj => by
    have := List.all_eq_true.1 (List.all_eq_true.1 h4 i (List.mem_range.2 hi)) j (List.mem_range.2 hj)
    exact of_decide_eq_true this
  refine wp_region_keeps (fun a0 d b wb => Agree (slots n D) a0 b ∧ b.tmps.size = a0.tmps.size ∧ ((d n = false ∧ Below v.heap.size v wb ∧ ∀ i, i < n → d i = true → U i (sl b (D i)) wb) ∨ ((∀ i, i < n + 1 → d i = true) ∧ Fin b wb))) hm h5 ⟨Agree.refl _ _, rfl, .inl ⟨rfl, hv.drew, fun i hi h => by cases h⟩⟩ ?_ ?_
  · intro d b wb i o K ho hd hdep hI hK
    obtain ⟨hA, hbs, hI⟩ := hI
    have hi : i < n + 1 := by rw [← hsize]; exact (Array.getElem?_eq_some_iff.1 ho).1
    by_cases hin : i < n
    · rcases hI with ⟨hdn, hbv, hU⟩ | ⟨hdn, _⟩
      · obtain ⟨e1, e2⟩ := hdst i o ho hin
        refine wpOp_of ho e2 (hstep i o b wb K ho hin hA hbv (fun e hee hb => ?_) fun x w' hb hx => hK _ _ ⟨hA.put (mem_slots hin) x, (size_put _ _ _).trans hbs, .inl ⟨?_, bstep hbv hb hbv.size, fun j hj hdj => ?_⟩⟩)
        · have hlt := List.all_eq_true.1 h5 i (List.mem_range.2 (by omega))
          rw [ho] at hlt
          simp only [Option.map_some, Option.getD_some] at hlt
          have := (Array.all_eq_true_iff_forall_mem.1 hlt) e hee
          exact hU e.on (by have := of_decide_eq_true this; omega) (hdep e hee hb)
        · show (if n = i then true else d n) = false
          rw [if_neg (by omega)]; exact hdn
        · by_cases hji : j = i
          · subst hji
            rw [sl_eq (by rw [hbs]; exact hsz j hj)]
            exact hx
          · have hdj : (if j = i then true else d j) = true := hdj
            rw [if_neg hji] at hdj
            rw [sl_ne (fun e => hji (hinj j i hj hin e.symm))]
            exact mono _ _ _ _ hb (hU j hj hdj)
      · rw [hdn i hi] at hd; cases hd
    · obtain rfl : i = n := by omega
      rcases hI with ⟨hdn, hbv, hU⟩ | ⟨hdn, _⟩
      · rw [ho] at h3
        simp only [Option.map_some, Option.getD_some, Bool.and_eq_true, Option.isNone_iff_eq_none] at h3
        obtain ⟨⟨_, e2⟩, h3⟩ := h3
        have hall : ∀ j, j < i → d j = true := fun j hj => by
          have := List.all_eq_true.1 h3 j (List.mem_range.2 hj)
          obtain ⟨k, hk, hke⟩ := Array.any_eq_true.1 this
          simp only [Bool.and_eq_true, decide_eq_true_eq] at hke
          rw [← hke.2]
          exact hdep _ (Array.getElem_mem hk) hke.1
        exact wpOp_of ho e2 (hlast o b wb K ho hA hbv (fun j hj => hU j hj (hall j hj)) fun w' hf => hK _ _ ⟨hA, hbs, .inr ⟨fun j hj => by
          show (if j = i then true else d j) = true
          by_cases hji : j = i
          · rw [if_pos hji]
          · rw [if_neg hji]; exact hall j (by omega), hf⟩⟩)
      · rw [hdn i hi] at hd; cases hd
  · intro d b wb hall hI
    obtain ⟨hA, hbs, hI⟩ := hI
    rcases hI with ⟨hdn, _⟩ | ⟨_, hF⟩
    · rw [hall n (by omega)] at hdn; cases hdn
    · exact he b wb hA hF

/-- .. where one operation may change what was there (a slice of one's own that grows): G holds up to it; what the others know, it keeps. -/
theorem wp_region_grows {P : Program} {ops : Array Oper} {Q : Exit → Act → World → Prop} {id : Nat} {a : Act} {w : World} (Base G : World → Prop) (Rel : World → World → Prop) (p n : Nat) (D : Nat → Tmp) (U : Nat → Value → World → Prop) (Fin : Act → World → Prop)
    (hm : P.follows .mixedOrders = true) (hB : specsB ops n D = true) (hsz : ∀ i, i < n → D i < a.tmps.size) (hp : p < n) (hv : Base w.drew) (hg : G w.drew) (hbase : ∀ w w', Below w.heap.size w w' → Base w → Base w') (hbaseR : ∀ w w', Rel w w' → Base w → Base w') (hG : ∀ w w', Below w.heap.size w w' → G w → G w')
    (monoR : ∀ i x w w', i ≠ p → Rel w w' → U i x w → U i x w')
    (mono : ∀ i x w w', Below w.heap.size w w' → U i x w → U i x w')
    (hstep : ∀ i o b wb (K : Act → World → Prop), ops[i]? = some o → i < n → i ≠ p → Agree (slots n D) a b → Base wb → (∀ e ∈ o.after, Region.binds .any e = true → U e.on (sl b (D e.on)) wb) → (∀ x w', Below wb.heap.size wb w' → U i x w' → K (b.put (some (D i)) x) w') → o.wp P b wb K Q)
    (hgrow : ∀ o b wb (K : Act → World → Prop), ops[p]? = some o → Agree (slots n D) a b → Base wb → G wb → (∀ e ∈ o.after, Region.binds .any e = true → U e.on (sl b (D e.on)) wb) → (∀ x w', Rel wb w' → U p x w' → K (b.put (some (D p)) x) w') → o.wp P b wb K Q)
    (hlast : ∀ o b wb (K : Act → World → Prop), ops[n]? = some o → Agree (slots n D) a b → Base wb → (∀ i, i < n → U i (sl b (D i)) wb) → (∀ w', Fin b w' → K b w') → o.wp P b wb K Q)
    (he : ∀ b wb, Agree (slots n D) a b → Fin b wb → Q .normal b wb) : (Code.region id ops true).wp P Q a w := by
  unfold specsB at hB
  simp only [Bool.and_eq_true] at hB
  obtain ⟨⟨⟨⟨h1, h2⟩, h3⟩, h4⟩, h5⟩ := hB
  have hsize : ops.size = n + 1 := of_decide_eq_true h1
  have hdst : ∀ i o, ops[i]? = some o → i < n → o.dst = some (D i) ∧ o.guard = none := fun i o ho hi => by
    have := List.all_eq_true.1 h2 i (List.mem_range.2 hi)
    rw [ho] at this
    simp only [Option.map_some, Option.getD_some, Bool.and_eq_true, decide_eq_true_eq, Option.isNone_iff_eq_none] at this
    exact this
  have hinj : ∀ i j, i < n → j < n → D i = D j → i = j := fun i j hi hj => by
    have := List.all_eq_true.1 (List.all_eq_true.1 h4 i (List.mem_range.2 hi)) j (List.mem_range.2 hj)
    exact of_decide_eq_true this
  refine wp_region_keeps (fun a0 d b wb => Agree (slots n D) a0 b ∧ b.tmps.size = a0.tmps.size ∧ ((d n = false ∧ Base wb ∧ (d p = false → G wb) ∧ ∀ i, i < n → d i = true → U i (sl b (D i)) wb) ∨ ((∀ i, i < n + 1 → d i = true) ∧ Fin b wb))) hm h5 ⟨Agree.refl _ _, rfl, .inl ⟨rfl, hv, fun _ => hg, fun i hi h => by cases h⟩⟩ ?_ ?_
  · intro d b wb i o K ho hd hdep hI hK
    obtain ⟨hA, hbs, hI⟩ := hI
    have hi : i < n + 1 := by rw [← hsize]; exact (Array.getElem?_eq_some_iff.1 ho).1
    by_cases hin : i < n
    · rcases hI with ⟨hdn, hbv, hGG, hU⟩ | ⟨hdn, _⟩
      · obtain ⟨e1, e2⟩ := hdst i o ho hin
        have hdeps : ∀ e ∈ o.after, Region.binds .any e = true → U e.on (sl b (D e.on)) wb := fun e hee hb => by
          have hlt := List.all_eq_true.1 h5 i (List.mem_range.2 (by omega))
          rw [ho] at hlt
          simp only [Option.map_some, Option.getD_some] at hlt
          have := (Array.all_eq_true_iff_forall_mem.1 hlt) e hee
          exact hU e.on (by have := of_decide_eq_true this; omega) (hdep e hee hb)
        have hdn2 : (if n = i then true else d n) = false := by rw [if_neg (by omega)]; exact hdn
        by_cases hip : i = p
        · subst hip
          refine wpOp_of ho e2 (hgrow o b wb K ho hA hbv (hGG hd) hdeps fun x w' hb hx => hK _ _ ⟨hA.put (mem_slots hin) x, (size_put _ _ _).trans hbs, .inl ⟨hdn2, hbaseR _ _ hb hbv, fun h => ?_, fun j hj hdj => ?_⟩⟩)
          · have h : (if i = i then true else d i) = false := h
            rw [if_pos rfl] at h; cases h
          · by_cases hji : j = i
            · subst hji
              rw [sl_eq (by rw [hbs]; exact hsz j hj)]
              exact hx
            · have hdj : (if j = i then true else d j) = true := hdj
              rw [if_neg hji] at hdj
              rw [sl_ne (fun e => hji (hinj j i hj hin e.symm))]
              exact monoR _ _ _ _ hji hb (hU j hj hdj)
        · refine wpOp_of ho e2 (hstep i o b wb K ho hin hip hA hbv hdeps fun x w' hb hx => hK _ _ ⟨hA.put (mem_slots hin) x, (size_put _ _ _).trans hbs, .inl ⟨hdn2, hbase _ _ hb hbv, fun h => ?_, fun j hj hdj => ?_⟩⟩)
          · have h : (if p = i then true else d p) = false := h
            rw [if_neg (fun e => hip e.symm)] at h
            exact hG _ _ hb (hGG h)
          · by_cases hji : j = i
            · subst hji
              rw [sl_eq (by rw [hbs]; exact hsz j hj)]
              exact hx
            · have hdj : (if j = i then true else d j) = true := hdj
              rw [if_neg hji] at hdj
              rw [sl_ne (fun e => hji (hinj j i hj hin e.symm))]
              exact mono _ _ _ _ hb (hU j hj hdj)
      · rw [hdn i hi] at hd; cases hd
    · obtain rfl : i = n := by omega
      rcases hI with ⟨hdn, hbv, hGG, hU⟩ | ⟨hdn, _⟩
      · rw [ho] at h3
        simp only [Option.map_some, Option.getD_some, Bool.and_eq_true, Option.isNone_iff_eq_none] at h3
        obtain ⟨⟨_, e2⟩, h3⟩ := h3
        have hall : ∀ j, j < i → d j = true := fun j hj => by
          have := List.all_eq_true.1 h3 j (List.mem_range.2 hj)
          obtain ⟨k, hk, hke⟩ := Array.any_eq_true.1 this
          simp only [Bool.and_eq_true, decide_eq_true_eq] at hke
          rw [← hke.2]
          exact hdep _ (Array.getElem_mem hk) hke.1
        exact wpOp_of ho e2 (hlast o b wb K ho hA hbv (fun j hj => hU j hj (hall j hj)) fun w' hf => hK _ _ ⟨hA, hbs, .inr ⟨fun j hj => by
          show (if j = i then true else d j) = true
          by_cases hji : j = i
          · rw [if_pos hji]
          · rw [if_neg hji]; exact hall j (by omega), hf⟩⟩)
      · rw [hdn i hi] at hd; cases hd
  · intro d b wb hall hI
    obtain ⟨hA, hbs, hI⟩ := hI
    rcases hI with ⟨hdn, _⟩ | ⟨_, hF⟩
    · rw [hall n (by omega)] at hdn; cases hdn
    · exact he b wb hA hF

end Go.Proofs.YthjdeckdklhphaaGreatDoor
