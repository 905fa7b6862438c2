/-
  That the statements look at the program at all: their closed run.
-/
import Derived.Test.YtlniokpekcoodaaGreatDoorMapTop
import Derived.Test.YtlniokpekcoodaaGreatDoorVals
import Derived.Orders
set_option linter.unusedVariables false
set_option linter.unusedSimpArgs false
namespace Go.Proofs.YtlniokpekcoodaaGreatDoor
open Go.RowKit Go.Sort

def T.int (n : Int) : T := .mk 2 false n ⟨#[]⟩ [] []

/-- A result that lies in a variable as it is. -/
theorem ret_read {P : Program} {fn : Func} {R : Ending → World → Prop} {a : Act} {w : World} {p : Tmp} {ty : TypeId} {d : TypeDesc} (g : Nat) (cs : Array Value) (h : fn.results = #[.cell p ty]) (hdef : a.defers = []) (hp : a.tmps.getD p undef = .pointer (some ⟨g, 0, none⟩))
    (hd : (match d with | .struct _ | .array _ _ => true | _ => false) = true) (hu : P.underlying ty = some d) (hi : (P.info? ty).map (·.size) = some cs.size) (hc : ∀ i (h : i < cs.size), w.cell? ⟨g, i, none⟩ = some cs[i])
    (hR : R (.returned (.agg cs)) w) : bodyPost P fn R .ret a w := bodyPost_ret (results_cells h _ _ g cs d hd hu hp hc hi) hdef hR

theorem tInt_any (n : Int) (w : World) : Calls Tryz.prog 26 #[.int .i64 n] w fun e w' => e = .returned (.agg #[.int .i64 2, .bool false, .int .i64 n, .string ⟨#[]⟩, .slice none 0 0, .slice none 0 0]) ∧ Below w.heap.size w w' := by
  go_enter Tryz.func26, Tryz.ntmps26
  go_wp2_with fail
  obtain ⟨dd, hu, hdd⟩ := Tryz.structV
  refine ret_read w.heap.size #[.int .i64 2, .bool false, .int .i64 n, .string ⟨#[]⟩, .slice none 0 0, .slice none 0 0] Tryz.results26 rfl rfl hdd hu Tryz.sizeV (fun i hi => by rw [World.cell?_alloc_new]; exact Array.getElem?_eq_getElem hi) ?_
  exact ⟨rfl, (Below.refl _ _).alloc (Nat.le_refl _) _⟩

theorem empty_sliceP (w : World) (R : Nat → Prop) : SliceP w R [] none 0 (fun _ => #[]) := ⟨⟨by simp, by simp, fun _ => rfl, fun hp => absurd hp (by simp), by omega⟩, fun i hi => absurd hi (by simp), fun i hi => absurd hi (by simp), fun i hi => absurd hi (by simp)⟩
theorem wf2 : (Lit.int .i64 2).wf = true := by decide
theorem int_lies (w : World) (R : Nat → Prop) (n : Int) (hn : (Lit.int .i64 n).wf = true) : Lies w R (T.int n) #[.int .i64 2, .bool false, .int .i64 n, .string ⟨#[]⟩, .slice none 0 0, .slice none 0 0] :=
  Lies.of_slices wf2 hn empty_size (empty_sliceV w R) (empty_sliceP w R)

def kA : ByteArray := ⟨#[97]⟩
def kB : ByteArray := ⟨#[98]⟩
def three : List (ByteArray × T) := [(kB, T.int 1), (kA, T.int 2), (kB, T.int 3)]
def intCells (n : Int) : Array Value := #[.int .i64 2, .bool false, .int .i64 n, .string ⟨#[]⟩, .slice none 0 0, .slice none 0 0]
def threeCells : Array Value := #[.string ⟨#[98]⟩, .int .i64 2, .bool false, .int .i64 1, .string ⟨#[]⟩, .slice none 0 0, .slice none 0 0, .string ⟨#[97]⟩, .int .i64 2, .bool false, .int .i64 2, .string ⟨#[]⟩, .slice none 0 0, .slice none 0 0, .string ⟨#[98]⟩, .int .i64 2, .bool false, .int .i64 3, .string ⟨#[]⟩, .slice none 0 0, .slice none 0 0]

theorem three_cell (w : World) (t : TypeId) (j : Nat) (hj : j < 21) : (w.alloc (.cells threeCells t)).cell? ⟨w.heap.size, j, none⟩ = some (threeCells[j]'hj) := by
  rw [World.cell?_alloc_new]; exact Array.getElem?_eq_getElem hj

theorem three_slice (w : World) : SliceP (w.alloc (.cells threeCells 51)) (fun _ => True) three (some ⟨w.heap.size, 0, none⟩) 3 (fun i => intCells (i + 1)) := by
  refine ⟨⟨by decide, by simp [three], by simp, fun _ => ⟨_, _, rfl, trivial⟩, by omega⟩, fun i hi bl ol e => ?_, fun i hi => ?_, fun i hi => ?_⟩
  · simp only [Option.some.injEq, Addr.mk.injEq, and_true] at e
    obtain ⟨rfl, rfl⟩ := e
    have hi3 : i < 3 := hi
    intro j hj
    have hj7 : j < 7 := by simpa [intCells] using hj
    rw [Nat.zero_add, three_cell w _ (i * 7 + j) (by omega)]
    rcases (by omega : i = 0 ∨ i = 1 ∨ i = 2) with rfl | rfl | rfl <;> rcases (by omega : j = 0 ∨ j = 1 ∨ j = 2 ∨ j = 3 ∨ j = 4 ∨ j = 5 ∨ j = 6) with rfl | rfl | rfl | rfl | rfl | rfl | rfl <;> rfl
  · have hi3 : i < 3 := hi
    rcases (by omega : i = 0 ∨ i = 1 ∨ i = 2) with rfl | rfl | rfl <;> exact (by decide : (1 : Nat) ≤ 140737488355328)
  · have hi3 : i < 3 := hi
    rcases (by omega : i = 0 ∨ i = 1 ∨ i = 2) with rfl | rfl | rfl
    · exact int_lies _ _ 1 (by decide)
    · exact int_lies _ _ 2 (by decide)
    · exact int_lies _ _ 3 (by decide)

theorem three_kept : keepTo (·.1) (insN (·.1) three.length three) three.length = [(kA, T.int 2), (kB, T.int 3)] := by kernel_rfl
theorem three_map : T.mkMap three = .mk 5 false 0 ⟨#[]⟩ [] [(kA, T.int 2), (kB, T.int 3)] := by unfold T.mkMap; rw [three_kept]
theorem get_a : (T.mk 5 false 0 ⟨#[]⟩ [] [(kA, T.int 2), (kB, T.int 3)]).get kA = some (T.int 2) := by kernel_rfl
theorem get_b : (T.mk 5 false 0 ⟨#[]⟩ [] [(kA, T.int 2), (kB, T.int 3)]).get kB = some (T.int 3) := by kernel_rfl

end Go.Proofs.YtlniokpekcoodaaGreatDoor

/-
  What package tree makes of plain things: nothing, a truth, a text, a list.
-/
set_option linter.unusedVariables false
set_option linter.unusedSimpArgs false
namespace Go.Proofs.YtlniokpekcoodaaGreatDoor
open Go.RowKit Go.Sort

theorem tNull_any (w : World) : Calls Tryz.prog 63 #[] w fun e w' => e = .returned (.agg #[.int .i64 0, .bool false, .int .i64 0, .string ⟨#[]⟩, .slice none 0 0, .slice none 0 0]) ∧ Below w.heap.size w w' := by
  go_enter Tryz.func63, Tryz.ntmps63
  go_wp2_with fail
  obtain ⟨dd, hu, hdd⟩ := Tryz.structV
  refine ret_read w.heap.size #[.int .i64 0, .bool false, .int .i64 0, .string ⟨#[]⟩, .slice none 0 0, .slice none 0 0] Tryz.results63 rfl rfl hdd hu Tryz.sizeV (fun i hi => by rw [World.cell?_alloc_new]; exact Array.getElem?_eq_getElem hi) ?_
  exact ⟨rfl, (Below.refl _ _).alloc (Nat.le_refl _) _⟩

theorem tBool_any (b : Bool) (w : World) : Calls Tryz.prog 64 #[.bool b] w fun e w' => e = .returned (.agg #[.int .i64 1, .bool b, .int .i64 0, .string ⟨#[]⟩, .slice none 0 0, .slice none 0 0]) ∧ Below w.heap.size w w' := by
  go_enter Tryz.func64, Tryz.ntmps64
  go_wp2_with fail
  obtain ⟨dd, hu, hdd⟩ := Tryz.structV
  refine ret_read w.heap.size #[.int .i64 1, .bool b, .int .i64 0, .string ⟨#[]⟩, .slice none 0 0, .slice none 0 0] Tryz.results64 rfl rfl hdd hu Tryz.sizeV (fun i hi => by rw [World.cell?_alloc_new]; exact Array.getElem?_eq_getElem hi) ?_
  exact ⟨rfl, (Below.refl _ _).alloc (Nat.le_refl _) _⟩

theorem tStr_any (s : ByteArray) (w : World) : Calls Tryz.prog 42 #[.string s] w fun e w' => e = .returned (.agg #[.int .i64 3, .bool false, .int .i64 0, .string s, .slice none 0 0, .slice none 0 0]) ∧ Below w.heap.size w w' := by
  go_enter Tryz.func42, Tryz.ntmps42
  go_wp2_with fail
  obtain ⟨dd, hu, hdd⟩ := Tryz.structV
  refine ret_read w.heap.size #[.int .i64 3, .bool false, .int .i64 0, .string s, .slice none 0 0, .slice none 0 0] Tryz.results42 rfl rfl hdd hu Tryz.sizeV (fun i hi => by rw [World.cell?_alloc_new]; exact Array.getElem?_eq_getElem hi) ?_
  exact ⟨rfl, (Below.refl _ _).alloc (Nat.le_refl _) _⟩

theorem one_boxV {w w1 : World} {cs : Array Value} {ty : TypeId} (h : Below (w.alloc (.cells cs ty)).heap.size (w.alloc (.cells cs ty)) w1) :
    (∀ j, w1.cell? ⟨w.heap.size, j, none⟩ = cs[j]?) ∧ (∀ j, w1.frozen? ⟨w.heap.size, j, none⟩ = false) :=
  ⟨fun j => by rw [h.cell (p := ⟨w.heap.size, j, none⟩) (by simp), World.cell?_alloc_new], fun j => by rw [h.frozen (p := ⟨w.heap.size, j, none⟩) (by simp), World.frozen?_alloc_new]⟩

def T.listOf (ts : List T) : T := .mk 4 false 0 ⟨#[]⟩ ts []
def MadeL (w : World) (ts : List T) (e : Ending) (w' : World) : Prop := ∃ ds, e = .returned (.agg ds) ∧ Lies w' (fun b => w.heap.size ≤ b) (T.listOf ts) ds ∧ Below w.heap.size w w'
theorem wf4 : (Lit.int .i64 4).wf = true := by decide

end Go.Proofs.YtlniokpekcoodaaGreatDoor

/-
  A region that draws its order: what holds ahead, and is kept by whatever operation comes next, holds behind it.
-/
set_option linter.unusedVariables false
set_option linter.unusedSimpArgs false
namespace Go.Proofs.YtlniokpekcoodaaGreatDoor
open Go.RowKit

section
variable {P : Program} {ops : Array Oper} {Q : Exit → Act → World → Prop}

theorem count_set {l : Array Bool} {i : Nat} (hi : i < l.size) (h : l.getD i true = false) : (l.setIfInBounds i true).toList.count false + 1 = l.toList.count false := by
  have e : l[i] = false := by simpa [Array.getD, hi] using h
  rw [Array.toList_setIfInBounds]
  have h1 : i < l.toList.length := by simpa using hi
  have := List.count_set (a := true) (b := false) (l := l.toList) (i := i) h1
  have hg : l.toList[i] = false := by simpa using e
  rw [this, hg]
  have : 0 < l.toList.count false := List.count_pos_iff.2 (by
    have hm : l.toList[i] ∈ l.toList := List.getElem_mem h1
    rwa [hg] at hm)
  have e1 : (if ((false : Bool) == false) = true then 1 else 0) = 1 := rfl
  have e2 : (if ((true : Bool) == false) = true then 1 else 0) = 0 := rfl
  rw [e1, e2]
  omega

theorem getD_set {l : Array Bool} {i : Nat} (hi : i < l.size) (k : Nat) : (l.setIfInBounds i true).getD k false = if k = i then true else l.getD k false := by
  by_cases h : k = i
  · subst h
    simp [Array.getD, hi]
  · rw [if_neg h, getD_set_ne false (fun e => h e.symm)]

theorem wpAny_inv (Inv : (Nat → Bool) → Act → World → Prop)
    (hs : ∀ d a w i o, ops[i]? = some o → d i = false → (∀ e ∈ o.after, Region.binds .any e = true → d e.on = true) → Inv d a w → wpOp P ops Q i (Inv fun k => if k = i then true else d k) a w)
    (he : ∀ l a w, l.size = ops.size → Inv (fun k => l.getD k false) a w → Region.ready .any ops l = [] → Q .normal a w) :
    ∀ (fuel : Nat) (l : Array Bool) (a : Act) (w : World), l.size = ops.size → l.toList.count false ≤ fuel → Inv (fun k => l.getD k false) a w → wpAny P .any ops Q fuel l a w
  | 0, l, a, w, hz, hc, h => by
    have hr : Region.ready .any ops l = [] := by
      apply List.eq_nil_iff_forall_not_mem.2
      intro j hj
      obtain ⟨h0, o, ho, _⟩ := mem_ready.1 hj
      have hj2 : j < l.size := by rw [hz]; exact (Array.getElem?_eq_some_iff.1 ho).1
      have e : l[j] = false := by simpa [Array.getD, hj2] using h0
      have : 0 < l.toList.count false := List.count_pos_iff.2 (by
        have : l.toList[j]'(by simpa using hj2) = false := by simpa using e
        rw [← this]; exact List.getElem_mem _)
      omega
    exact ⟨hr, he l a w hz h hr⟩
  | fuel + 1, l, a, w, hz, hc, h => by
    refine ⟨he l a w hz h, fun i hi => ?_⟩
    obtain ⟨h0, o, ho, hd⟩ := mem_ready.1 hi
    have hi2 : i < l.size := by rw [hz]; exact (Array.getElem?_eq_some_iff.1 ho).1
    have h0' : l.getD i false = false := by simpa [Array.getD, hi2] using h0
    refine wpOp_mono (fun a' w' hk => ?_) (hs _ a w i o ho h0' hd h)
    refine wpAny_inv Inv hs he fuel _ a' w' (by simpa using hz) (by have := count_set hi2 h0; omega) ?_
    have : (fun k => (l.setIfInBounds i true).getD k false) = fun k => if k = i then true else l.getD k false := funext fun k => getD_set hi2 k
    rw [this]
    exact hk

theorem ready_nil {l : Array Bool} (hz : l.size = ops.size) (hlt : ∀ (i : Nat) (o : Oper), ops[i]? = some o → ∀ e ∈ o.after, e.on < i) (h : Region.ready .any ops l = []) : ∀ i, i < ops.size → l.getD i false = true := by
  intro i
  induction i using Nat.strongRecOn with
  | ind i ih =>
    intro hi
    cases hd : l.getD i false with
    | true => rfl
    | false =>
      have hi2 : i < l.size := by omega
      have h0 : l.getD i true = false := by simpa [Array.getD, hi2] using hd
      have hm : i ∈ Region.ready .any ops l := mem_ready.2 ⟨h0, ops[i], Array.getElem?_eq_getElem hi, fun e he _ => ih e.on (hlt i _ (Array.getElem?_eq_getElem hi) e he) (by have := hlt i _ (Array.getElem?_eq_getElem hi) e he; omega)⟩
      rw [h] at hm
      cases hm

/-- THE RULE: kept by whatever operation may come next, an invariant holds where all are done. -/
theorem wp_region_inv {id : Nat} {a : Act} {w : World} (Inv : (Nat → Bool) → Act → World → Prop) (hm : P.follows .mixedOrders = true) (hlt : (List.range ops.size).all (fun i => ((ops[i]?).map fun o => o.after.all fun e => decide (e.on < i)).getD true) = true)
    (h0 : Inv (fun _ => false) a w.drew)
    (hs : ∀ d a w i o, ops[i]? = some o → d i = false → (∀ e ∈ o.after, Region.binds .any e = true → d e.on = true) → Inv d a w → wpOp P ops Q i (Inv fun k => if k = i then true else d k) a w)
    (he : ∀ d a w, (∀ i, i < ops.size → d i = true) → Inv d a w → Q .normal a w) : (Code.region id ops true).wp P Q a w := by
  refine wp_region_any hm (wpAny_inv Inv hs (fun l a w hz hi hr => he _ a w (ready_nil hz (fun i o ho e hee => ?_) hr) hi) _ _ a _ (by simp) (by simp) ?_)
  · have hi : i < ops.size := (Array.getElem?_eq_some_iff.1 ho).1
    have h1 := List.all_eq_true.1 hlt i (List.mem_range.2 hi)
    rw [ho] at h1
    simp only [Option.map_some, Option.getD_some] at h1
    have := (Array.all_eq_true_iff_forall_mem.1 h1) e hee
    simpa using this
  · have : (fun k => (Array.replicate ops.size false).getD k false) = fun _ => false := funext fun k => by
      simp [Array.getD]
    rw [this]
    exact h0

theorem wpOp_of {i : Nat} {o : Oper} {a : Act} {w : World} {K : Act → World → Prop} (ho : ops[i]? = some o) (hg : o.guard = none) (h : o.wp P a w K Q) : wpOp P ops Q i K a w := by
  unfold wpOp
  rw [ho]
  have hw : Region.wanted o (yielded ops a.tmps) = true := by simp [Region.wanted, hg]
  simp only [hw, if_true]
  exact .inl h

/-- .. the invariant knowing the act at its head. -/
theorem wp_region_keeps {id : Nat} {a : Act} {w : World} (Inv : Act → (Nat → Bool) → Act → World → Prop) (hm : P.follows .mixedOrders = true) (hlt : (List.range ops.size).all (fun i => ((ops[i]?).map fun o => o.after.all fun e => decide (e.on < i)).getD true) = true)
    (h0 : Inv a (fun _ => false) a w.drew)
    (hs : ∀ d b w i o (K : Act → World → Prop), ops[i]? = some o → d i = false → (∀ e ∈ o.after, Region.binds .any e = true → d e.on = true) → Inv a d b w → (∀ b' w', Inv a (fun k => if k = i then true else d k) b' w' → K b' w') → wpOp P ops Q i K b w)
    (he : ∀ d b w, (∀ i, i < ops.size → d i = true) → Inv a d b w → Q .normal b w) : (Code.region id ops true).wp P Q a w :=
  wp_region_inv (Inv a) hm hlt h0 (fun d b w i o h1 h2 h3 h4 => hs d b w i o _ h1 h2 h3 h4 fun _ _ h => h) he
end

/-- The same act, but for these slots. -/
structure Agree (L : List Tmp) (a b : Act) : Prop where
  size : b.tmps.size = a.tmps.size
  defers : b.defers = a.defers
  slot : ∀ t, t ∉ L → b.tmps[t]? = a.tmps[t]?
theorem Agree.refl (L : List Tmp) (a : Act) : Agree L a a := ⟨rfl, rfl, fun _ _ => rfl⟩
theorem Agree.put {L : List Tmp} {a b : Act} (h : Agree L a b) {t : Tmp} (ht : t ∈ L) (v : Value) : Agree L a (b.put (some t) v) :=
  ⟨by simp [Act.put, h.size], h.defers, fun s hs => by
    have hne : t ≠ s := fun e => hs (e ▸ ht)
    rw [← h.slot s hs]
    simp [Act.put, Array.getElem?_setIfInBounds_ne hne]⟩
theorem Agree.none {L : List Tmp} {a b : Act} (h : Agree L a b) (v : Value) : Agree L a (b.put Option.none v) := h
/-- What a slot holds. -/
def sl (a : Act) (t : Tmp) : Value := a.tmps[t]?.getD undef
theorem sl_eq {a : Act} {t : Tmp} (ht : t < a.tmps.size) (v : Value) : sl (a.put (some t) v) t = v := by
  simp [Act.put, sl, Array.getElem?_setIfInBounds_self_of_lt ht]
theorem sl_ne {a : Act} {t s : Tmp} (h : t ≠ s) (v : Value) : sl (a.put (some t) v) s = sl a s := by
  simp [Act.put, sl, Array.getElem?_setIfInBounds_ne h]
theorem sl_if {a : Act} {t s : Tmp} (ht : t < a.tmps.size) (v : Value) : sl (a.put (some t) v) s = if t = s then v else sl a s := by
  by_cases h : t = s
  · subst h; rw [if_pos rfl, sl_eq ht]
  · rw [if_neg h, sl_ne h]
theorem sl_none {a : Act} {s : Tmp} (v : Value) : sl (a.put Option.none v) s = sl a s := rfl
theorem size_put (a : Act) (t : Option Tmp) (v : Value) : (a.put t v).tmps.size = a.tmps.size := by
  cases t <;> simp [Act.put]
/-- The act is the first one, with its slots laid. -/
theorem Agree.act {L : List Tmp} {a b : Act} (h : Agree L a b) (hL : ∀ t ∈ L, t < a.tmps.size) : b = L.foldl (fun c t => c.put (some t) (sl b t)) a := by
  have key : ∀ (M : List Tmp) (c : Act), c.tmps.size = a.tmps.size → c.defers = b.defers → (∀ t ∈ M, t < a.tmps.size) → (∀ t, t ∉ M → b.tmps[t]? = c.tmps[t]?) → b = M.foldl (fun c t => c.put (some t) (sl b t)) c := by
    intro M
    induction M with
    | nil =>
      intro c hs hd _ hc
      obtain ⟨ct, cd⟩ := c
      obtain ⟨bt, bd⟩ := b
      have e1 : bt = ct := Array.ext_getElem? fun i => hc i (by simp)
      have e2 : cd = bd := hd
      simp [e1, e2]
    | cons t M ih =>
      intro c hs hd hlt hc
      rw [List.foldl_cons]
      have ht : t < c.tmps.size := by rw [hs]; exact hlt t (by simp)
      refine ih _ (by simp [Act.put, hs]) hd (fun s hsM => hlt s (by simp [hsM])) fun s hsM => ?_
      by_cases e : t = s
      · subst e
        have hb : t < b.tmps.size := by rw [h.size]; exact hlt t (by simp)
        simp [Act.put, sl, Array.getElem?_setIfInBounds_self_of_lt ht, Array.getElem?_eq_getElem hb]
      · simp only [Act.put, Array.getElem?_setIfInBounds_ne e]
        exact hc s (by simp [hsM, Ne.symm e])
  exact key L a rfl h.defers.symm hL h.slot

end Go.Proofs.YtlniokpekcoodaaGreatDoor
