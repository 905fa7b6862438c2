/-
  A region that draws its order: what holds ahead, and is kept by whatever operation comes next, holds behind it.
-/
import Derived.Test.YtbmlmcoepmbelaaDoorVals
import Derived.Orders
set_option linter.unusedVariables false
set_option linter.unusedSimpArgs false
namespace Go.Proofs.YtbmlmcoepmbelaaDoor
open Go.RowKit

section
variable {P : Program} {ops : Array Oper} {Q : Exit → Act → World → Prop}

theorem count_set {l : Array Bool} {i : Nat} (hi : i < l.size) (h : l.getD i true = false) : (l.setIfInBounds i true).toList.count false + 1 = l.toList.count false := by
  have e : l[i] = false := by simpa [Array.getD, hi] using h
  rw [Array.toList_setIfInBounds]
  have h1 : i < l.toList.length := by simpa using hi
  have := List.count_set (a := true) (b := false) (l := l.toList) (i := i) h1
  have hg : l.toList[i] = false := by simpa using e
  rw [this, hg]
  have : 0 < l.toList.count false := List.count_pos_iff.2 (by
    have hm : l.toList[i] ∈ l.toList := List.getElem_mem h1
    rwa [hg] at hm)
  have e1 : (if ((false : Bool) == false) = true then 1 else 0) = 1 := rfl
  have e2 : (if ((true : Bool) == false) = true then 1 else 0) = 0 := rfl
  rw [e1, e2]
  omega

theorem getD_set {l : Array Bool} {i : Nat} (hi : i < l.size) (k : Nat) : (l.setIfInBounds i true).getD k false = if k = i then true else l.getD k false := by
  by_cases h : k = i
  · subst h
    simp [Array.getD, hi]
  · rw [if_neg h, getD_set_ne false (fun e => h e.symm)]

theorem wpAny_inv (Inv : (Nat → Bool) → Act → World → Prop)
    (hs : ∀ d a w i o, ops[i]? = some o → d i = false → (∀ e ∈ o.after, Region.binds .any e = true → d e.on = true) → Inv d a w → wpOp P ops Q i (Inv fun k => if k = i then true else d k) a w)
    (he : ∀ l a w, l.size = ops.size → Inv (fun k => l.getD k false) a w → Region.ready .any ops l = [] → Q .normal a w) :
    ∀ (fuel : Nat) (l : Array Bool) (a : Act) (w : World), l.size = ops.size → l.toList.count false ≤ fuel → Inv (fun k => l.getD k false) a w → wpAny P .any ops Q fuel l a w
  | 0, l, a, w, hz, hc, h => by
    have hr : Region.ready .any ops l = [] := by
      apply List.eq_nil_iff_forall_not_mem.2
      intro j hj
      obtain ⟨h0, o, ho, _⟩ := mem_ready.1 hj
      have hj2 : j < l.size := by rw [hz]; exact (Array.getElem?_eq_some_iff.1 ho).1
      have e : l[j] = false := by simpa [Array.getD, hj2] using h0
      have : 0 < l.toList.count false := List.count_pos_iff.2 (by
        have : l.toList[j]'(by simpa using hj2) = false := by simpa using e
        rw [← this]; exact List.getElem_mem _)
      omega
    exact ⟨hr, he l a w hz h hr⟩
  | fuel + 1, l, a, w, hz, hc, h => by
    refine ⟨he l a w hz h, fun i hi => ?_⟩
    obtain ⟨h0, o, ho, hd⟩ := mem_ready.1 hi
    have hi2 : i < l.size := by rw [hz]; exact (Array.getElem?_eq_some_iff.1 ho).1
    have h0' : l.getD i false = false := by simpa [Array.getD, hi2] using h0
    refine wpOp_mono (fun a' w' hk => ?_) (hs _ a w i o ho h0' hd h)
    refine wpAny_inv Inv hs he fuel _ a' w' (by simpa using hz) (by have := count_set hi2 h0; omega) ?_
    have : (fun k => (l.setIfInBounds i true).getD k false) = fun k => if k = i then true else l.getD k false := funext fun k => getD_set hi2 k
    rw [this]
    exact hk

theorem ready_nil {l : Array Bool} (hz : l.size = ops.size) (hlt : ∀ (i : Nat) (o : Oper), ops[i]? = some o → ∀ e ∈ o.after, e.on < i) (h : Region.ready .any ops l = []) : ∀ i, i < ops.size → l.getD i false = true := by
  intro i
  induction i using Nat.strongRecOn with
  | ind i ih =>
    intro hi
    cases hd : l.getD i false with
    | true => rfl
    | false =>
      have hi2 : i < l.size := by omega
      have h0 : l.getD i true = false := by simpa [Array.getD, hi2] using hd
      have hm : i ∈ Region.ready .any ops l := mem_ready.2 ⟨h0, ops[i], Array.getElem?_eq_getElem hi, fun e he _ => ih e.on (hlt i _ (Array.getElem?_eq_getElem hi) e he) (by have := hlt i _ (Array.getElem?_eq_getElem hi) e he; omega)⟩
      rw [h] at hm
      cases hm

/-- THE RULE: kept by whatever operation may come next, an invariant holds where all are done. -/
theorem wp_region_inv {id : Nat} {a : Act} {w : World} (Inv : (Nat → Bool) → Act → World → Prop) (hm : P.follows .mixedOrders = true) (hlt : (List.range ops.size).all (fun i => ((ops[i]?).map fun o => o.after.all fun e => decide (e.on < i)).getD true) = true)
    (h0 : Inv (fun _ => false) a w.drew)
    (hs : ∀ d a w i o, ops[i]? = some o → d i = false → (∀ e ∈ o.after, Region.binds .any e = true → d e.on = true) → Inv d a w → wpOp P ops Q i (Inv fun k => if k = i then true else d k) a w)
    (he : ∀ d a w, (∀ i, i < ops.size → d i = true) → Inv d a w → Q .normal a w) : (Code.region id ops true).wp P Q a w := by
  refine wp_region_any hm (wpAny_inv Inv hs (fun l a w hz hi hr => he _ a w (ready_nil hz (fun i o ho e hee => ?_) hr) hi) _ _ a _ (by simp) (by simp) ?_)
  · have hi : i < ops.size := (Array.getElem?_eq_some_iff.1 ho).1
    have h1 := List.all_eq_true.1 hlt i (List.mem_range.2 hi)
    rw [ho] at h1
    simp only [Option.map_some, Option.getD_some] at h1
    have := (Array.all_eq_true_iff_forall_mem.1 h1) e hee
    simpa using this
  · have : (fun k => (Array.replicate ops.size false).getD k false) = fun _ => false := funext fun k => by
      simp [Array.getD]
    rw [this]
    exact h0

theorem wpOp_of {i : Nat} {o : Oper} {a : Act} {w : World} {K : Act → World → Prop} (ho : ops[i]? = some o) (hg : o.guard = none) (h : o.wp P a w K Q) : wpOp P ops Q i K a w := by
  unfold wpOp
  rw [ho]
  have hw : Region.wanted o (yielded ops a.tmps) = true := by simp [Region.wanted, hg]
  simp only [hw, if_true]
  exact .inl h

/-- .. the invariant knowing the act at its head. -/
theorem wp_region_keeps {id : Nat} {a : Act} {w : World} (Inv : Act → (Nat → Bool) → Act → World → Prop) (hm : P.follows .mixedOrders = true) (hlt : (List.range ops.size).all (fun i => ((ops[i]?).map fun o => o.after.all fun e => decide (e.on < i)).getD true) = true)
    (h0 : Inv a (fun _ => false) a w.drew)
    (hs : ∀ d b w i o (K : Act → World → Prop), ops[i]? = some o → d i = false → (∀ e ∈ o.after, Region.binds .any e = true → d e.on = true) → Inv a d b w → (∀ b' w', Inv a (fun k => if k = i then true else d k) b' w' → K b' w') → wpOp P ops Q i K b w)
    (he : ∀ d b w, (∀ i, i < ops.size → d i = true) → Inv a d b w → Q .normal b w) : (Code.region id ops true).wp P Q a w :=
  wp_region_inv (Inv a) hm hlt h0 (fun d b w i o h1 h2 h3 h4 => hs d b w i o _ h1 h2 h3 h4 fun _ _ h => h) he
end

/-- The same act, but for these slots. -/
structure Agree (L : List Tmp) (a b : Act) : Prop where
  size : b.tmps.size = a.tmps.size
  defers : b.defers = a.defers
  slot : ∀ t, t ∉ L → b.tmps[t]? = a.tmps[t]?
theorem Agree.refl (L : List Tmp) (a : Act) : Agree L a a := ⟨rfl, rfl, fun _ _ => rfl⟩
theorem Agree.put {L : List Tmp} {a b : Act} (h : Agree L a b) {t : Tmp} (ht : t ∈ L) (v : Value) : Agree L a (b.put (some t) v) :=
  ⟨by simp [Act.put, h.size], h.defers, fun s hs => by
    have hne : t ≠ s := fun e => hs (e ▸ ht)
    rw [← h.slot s hs]
    simp [Act.put, Array.getElem?_setIfInBounds_ne hne]⟩
theorem Agree.none {L : List Tmp} {a b : Act} (h : Agree L a b) (v : Value) : Agree L a (b.put Option.none v) := h
/-- What a slot holds. -/
def sl (a : Act) (t : Tmp) : Value := a.tmps[t]?.getD undef
theorem sl_eq {a : Act} {t : Tmp} (ht : t < a.tmps.size) (v : Value) : sl (a.put (some t) v) t = v := by
  simp [Act.put, sl, Array.getElem?_setIfInBounds_self_of_lt ht]
theorem sl_ne {a : Act} {t s : Tmp} (h : t ≠ s) (v : Value) : sl (a.put (some t) v) s = sl a s := by
  simp [Act.put, sl, Array.getElem?_setIfInBounds_ne h]
theorem sl_if {a : Act} {t s : Tmp} (ht : t < a.tmps.size) (v : Value) : sl (a.put (some t) v) s = if t = s then v else sl a s := by
  by_cases h : t = s
  · subst h; rw [if_pos rfl, sl_eq ht]
  · rw [if_neg h, sl_ne h]
theorem sl_none {a : Act} {s : Tmp} (v : Value) : sl (a.put Option.none v) s = sl a s := rfl
theorem size_put (a : Act) (t : Option Tmp) (v : Value) : (a.put t v).tmps.size = a.tmps.size := by
  cases t <;> simp [Act.put]
/-- The act is the first one, with its slots laid. -/
theorem Agree.act {L : List Tmp} {a b : Act} (h : Agree L a b) (hL : ∀ t ∈ L, t < a.tmps.size) : b = L.foldl (fun c t => c.put (some t) (sl b t)) a := by
  have key : ∀ (M : List Tmp) (c : Act), c.tmps.size = a.tmps.size → c.defers = b.defers → (∀ t ∈ M, t < a.tmps.size) → (∀ t, t ∉ M → b.tmps[t]? = c.tmps[t]?) → b = M.foldl (fun c t => c.put (some t) (sl b t)) c := by
    intro M
    induction M with
    | nil =>
      intro c hs hd _ hc
      obtain ⟨ct, cd⟩ := c
      obtain ⟨bt, bd⟩ := b
      have e1 : bt = ct := Array.ext_getElem? fun i => hc i (by simp)
      have e2 : cd = bd := hd
      simp [e1, e2]
    | cons t M ih =>
      intro c hs hd hlt hc
      rw [List.foldl_cons]
      have ht : t < c.tmps.size := by rw [hs]; exact hlt t (by simp)
      refine ih _ (by simp [Act.put, hs]) hd (fun s hsM => hlt s (by simp [hsM])) fun s hsM => ?_
      by_cases e : t = s
      · subst e
        have hb : t < b.tmps.size := by rw [h.size]; exact hlt t (by simp)
        simp [Act.put, sl, Array.getElem?_setIfInBounds_self_of_lt ht, Array.getElem?_eq_getElem hb]
      · simp only [Act.put, Array.getElem?_setIfInBounds_ne e]
        exact hc s (by simp [hsM, Ne.symm e])
  exact key L a rfl h.defers.symm hL h.slot

end Go.Proofs.YtbmlmcoepmbelaaDoor
