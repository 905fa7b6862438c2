/-
  A set parted at its first equals sign: the reference's Quoted.
-/
import Derived.Test.YtlniokpekcoodaaGreatDoorUnqAnyM
import Derived.Test.YtlniokpekcoodaaGreatDoorRCompareM
import Derived.Test.YtlniokpekcoodaaGreatDoorSpecsM
set_option linter.unusedVariables false
set_option linter.unusedSimpArgs false
namespace Go.Proofs.YtlniokpekcoodaaGreatDoor
open Go.RowKit

/-- A text parted at its first equals sign, if it has one. -/
inductive Split (s : ByteArray) : ByteArray → ByteArray → Bool → Prop where
  | yes (p q : ByteArray) (h : s.data.toList = p.data.toList ++ 61 :: q.data.toList) (h2 : (61 : UInt8) ∉ p.data.toList) : Split s p q true
  | no (h : (61 : UInt8) ∉ s.data.toList) : Split s s ⟨#[]⟩ false
theorem split_ex (s : ByteArray) : ∃ p q found, Split s p q found ∧ p.size ≤ s.size ∧ q.size ≤ s.size := by
  by_cases h : (61 : UInt8) ∈ s.data.toList
  · obtain ⟨a, r, e, hn⟩ := List.eq_append_cons_of_mem h
    have hz : s.size = a.length + (r.length + 1) := by rw [Lib.size_eq, e]; simp
    refine ⟨⟨a.toArray⟩, ⟨r.toArray⟩, true, .yes _ _ (by simpa using e) (by simpa using hn), ?_, ?_⟩
    · rw [Lib.size_eq]; simp; omega
    · rw [Lib.size_eq]; simp; omega
  · exact ⟨s, ⟨#[]⟩, false, .no h, Nat.le_refl _, Nat.zero_le _⟩
theorem cut_eq_no : ∀ l : List UInt8, (61 : UInt8) ∉ l → Lib.cut l [61] = (l, [], false)
  | [], _ => rfl
  | c :: r, h => by
    have ih := cut_eq_no r fun hm => h (by simp [hm])
    have hc : c ≠ 61 := fun e => h (by simp [e])
    have e : Lib.index (c :: r) [61] = if Lib.index r [61] == -1 then -1 else Lib.index r [61] + 1 := by
      rw [Lib.index_one, Lib.index_one, Lib.indexByte, show (c == 61) = false from beq_eq_false_iff_ne.2 hc]
      rfl
    have hg := Lib.index_ge r [61]
    unfold Lib.cut at ih ⊢
    rw [e]
    by_cases h0 : 0 ≤ Lib.index r [61]
    · rw [if_pos h0] at ih
      injection ih with h1 h2
      injection h2 with h2 h3
      cases h3
    · have n1 : (Lib.index r [61] == -1) = true := by rw [beq_iff_eq]; omega
      rw [n1]
      rfl
theorem Split.cut {s p q : ByteArray} {found : Bool} (h : Split s p q found) : CutAt s p q found := by
  unfold CutAt
  cases h with
  | yes p q h h2 => rw [h]; exact cut_eq_at _ _ h2
  | no h => exact cut_eq_no _ h
theorem byte_at {s : ByteArray} {i : Nat} (h : i < s.size) (hl : i < s.data.toList.length) : s[i] = s.data.toList[i] := by
  have e := drop_step s i h
  have e2 := List.drop_eq_getElem_cons hl
  rw [e2] at e
  exact (List.cons.inj e).1.symm
/-- Ahead of it there is none; there it is; behind it is the rest. -/
theorem Split.facts {s p q : ByteArray} (h : Split s p q true) : s.size = p.size + 1 + q.size ∧ (∀ i (hi : i < s.size), i < p.size → s[i] ≠ 61) ∧ (∀ hi : p.size < s.size, s[p.size] = 61) ∧
    (∀ i (hi : i < q.size) (hs : p.size + 1 + i < s.size), s[p.size + 1 + i] = q[i]) ∧ s.extract 0 p.size = p ∧ s.extract (p.size + 1) s.size = q := by
  cases h with
  | yes p q h h2 =>
    have hpl := Lib.size_eq p
    have hql := Lib.size_eq q
    have hsz : s.size = p.size + 1 + q.size := by rw [Lib.size_eq, h, List.length_append, List.length_cons]; omega
    have hsl := Lib.size_eq s
    refine ⟨hsz, fun i hi hip e => ?_, fun hi => ?_, fun i hi hs => ?_, ?_, ?_⟩
    · rw [byte_at hi (by omega)] at e
      have : s.data.toList[i]'(by omega) = p.data.toList[i]'(by omega) := by simp only [h]; exact List.getElem_append_left (by omega)
      rw [this] at e
      exact h2 (e ▸ List.getElem_mem _)
    · rw [byte_at hi (by omega)]
      simp only [h, hpl]
      rw [List.getElem_append_right (by omega)]
      simp
    · rw [byte_at hs (by omega), byte_at hi (by omega)]
      simp only [h]
      rw [List.getElem_append_right (by omega)]
      simp only [hpl]
      have : p.data.toList.length + 1 + i - p.data.toList.length = i + 1 := by omega
      simp only [this, List.getElem_cons_succ]
    · have e : (s.extract 0 p.size).data.toList = p.data.toList := by
        rw [Lib.extract_eq, h, hpl]
        simp
      rw [← Lib.mk_data (s.extract 0 p.size), e, Lib.mk_data]
    · have e : (s.extract (p.size + 1) s.size).data.toList = q.data.toList := by
        have e2 : p.data.toList ++ 61 :: q.data.toList = (p.data.toList ++ [61]) ++ q.data.toList := by simp
        rw [ext_drop, h, hpl, e2]
        exact List.drop_left' (by simp)
      rw [← Lib.mk_data (s.extract (p.size + 1) s.size), e, Lib.mk_data]
theorem Split.none {s p q : ByteArray} (h : Split s p q false) : p = s ∧ q = ⟨#[]⟩ ∧ ∀ i (hi : i < s.size), s[i] ≠ 61 := by
  cases h with
  | no h =>
    refine ⟨rfl, rfl, fun i hi e => ?_⟩
    rw [byte_at hi (by have := Lib.size_eq s; omega)] at e
    exact h (e ▸ List.getElem_mem _)

/-- Does a set's word begin with a quote? -/
theorem quoted_head (q : ByteArray) (h : 0 < q.size) : quotedB q.data.toList = (((q[0].toNat : Int) == 34) || ((q[0].toNat : Int) == 39)) := by
  have e := drop_step q 0 h
  rw [List.drop_zero] at e
  rw [e]
  have k : ∀ (c : UInt8) (n : Nat) (d : UInt8), d.toNat = n → (((c.toNat : Int) == (n : Int)) = (c == d)) := fun c n d hd => by
    by_cases hc : c = d
    · subst hc; rw [hd]; simp
    · rw [beq_eq_false_iff_ne.2 hc, beq_eq_false_iff_ne]
      exact fun e => hc (byteIs (by omega))
  rw [show ((34 : Int)) = ((34 : Nat) : Int) from rfl, show ((39 : Int)) = ((39 : Nat) : Int) from rfl, k _ 34 34 rfl, k _ 39 39 rfl]
  unfold quotedB Lib.hasPrefix
  simp only [List.isPrefixOf, Bool.and_true]
  rw [Bool.beq_comm (a := 34), Bool.beq_comm (a := 39)]

end Go.Proofs.YtlniokpekcoodaaGreatDoor

/-
  A region that draws its order: values (one of them a variable that is made), one store into that variable, and values that may come behind it.
-/
set_option linter.unusedVariables false
set_option linter.unusedSimpArgs false
namespace Go.Proofs.YtlniokpekcoodaaGreatDoor
open Go.RowKit

theorem ready_nilB {ops : Array Oper} {l : Array Bool} (hz : l.size = ops.size) (hlt : ∀ (i : Nat) (o : Oper), ops[i]? = some o → ∀ e ∈ o.after, Region.binds .any e = true → e.on < i) (h : Region.ready .any ops l = []) : ∀ i, i < ops.size → l.getD i false = true := by
  intro i
  induction i using Nat.strongRecOn with
  | ind i ih =>
    intro hi
    cases hd : l.getD i false with
    | true => rfl
    | false =>
      have hi2 : i < l.size := by omega
      have h0 : l.getD i true = false := by simpa [Array.getD, hi2] using hd
      have hm : i ∈ Region.ready .any ops l := mem_ready.2 ⟨h0, ops[i], Array.getElem?_eq_getElem hi, fun e he hb => ih e.on (hlt i _ (Array.getElem?_eq_getElem hi) e he hb) (by have := hlt i _ (Array.getElem?_eq_getElem hi) e he hb; omega)⟩
      rw [h] at hm
      cases hm
/-- As wp_region_keeps; only what binds must wait for what stands ahead. -/
theorem wp_region_keepsB {P : Program} {ops : Array Oper} {Q : Exit → Act → World → Prop} {id : Nat} {a : Act} {w : World} (Inv : Act → (Nat → Bool) → Act → World → Prop) (hm : P.follows .mixedOrders = true) (hlt : (List.range ops.size).all (fun i => ((ops[i]?).map fun o => o.after.all fun e => !Region.binds .any e || decide (e.on < i)).getD true) = true)
    (h0 : Inv a (fun _ => false) a w.drew)
    (hs : ∀ d b w i o (K : Act → World → Prop), ops[i]? = some o → d i = false → (∀ e ∈ o.after, Region.binds .any e = true → d e.on = true) → Inv a d b w → (∀ b' w', Inv a (fun k => if k = i then true else d k) b' w' → K b' w') → wpOp P ops Q i K b w)
    (he : ∀ d b w, (∀ i, i < ops.size → d i = true) → Inv a d b w → Q .normal b w) : (Code.region id ops true).wp P Q a w := by
  refine wp_region_any hm (wpAny_inv (Inv a) (fun d b w i o h1 h2 h3 h4 => hs d b w i o _ h1 h2 h3 h4 fun _ _ h => h) (fun l a w hz hi hr => he _ a w (ready_nilB hz (fun i o ho e hee hbe => ?_) hr) hi) _ _ a _ (by simp) (by simp) ?_)
  · have hi : i < ops.size := (Array.getElem?_eq_some_iff.1 ho).1
    have h1 := List.all_eq_true.1 hlt i (List.mem_range.2 hi)
    rw [ho] at h1
    simp only [Option.map_some, Option.getD_some] at h1
    have := (Array.all_eq_true_iff_forall_mem.1 h1) e hee
    rw [hbe] at this
    simpa using this
  · have : (fun k => (Array.replicate ops.size false).getD k false) = fun _ => false := funext fun k => by
      simp [Array.getD]
    rw [this]
    exact h0

/-- n values, a store that waits for all but the late ones, one more value that waits for all. -/
def specsL (ops : Array Oper) (n : Nat) (D : Nat → Tmp) (L : Nat → Bool) : Bool :=
  decide (ops.size = n + 2) && (List.range n).all (fun i => ((ops[i]?).map fun o => decide (o.dst = some (D i)) && o.guard.isNone).getD false) &&
  ((ops[n]?).map fun o => o.dst.isNone && o.guard.isNone && (List.range n).all fun i => L i || o.after.any fun e => Region.binds .any e && decide (e.on = i)).getD false &&
  ((ops[n + 1]?).map fun o => decide (o.dst = some (D n)) && o.guard.isNone && (List.range (n + 1)).all fun i => o.after.any fun e => Region.binds .any e && decide (e.on = i)).getD false &&
  (List.range (n + 1)).all (fun i => (List.range (n + 1)).all fun j => decide (D i = D j → i = j)) &&
  (List.range ops.size).all (fun i => ((ops[i]?).map fun o => o.after.all fun e => !Region.binds .any e || decide (e.on < i)).getD true)

end Go.Proofs.YtlniokpekcoodaaGreatDoor

/-
  The rule of XSpecsL, with what each value has to do with the variable that is made in the midst.
-/
set_option linter.unusedVariables false
set_option linter.unusedSimpArgs false
namespace Go.Proofs.YtlniokpekcoodaaGreatDoor
open Go.RowKit

end Go.Proofs.YtlniokpekcoodaaGreatDoor

/-
  A region that draws its order: values (one of them a variable that is made), and one store, which comes last; with what each value has to do with that variable.
-/
set_option linter.unusedVariables false
set_option linter.unusedSimpArgs false
namespace Go.Proofs.YtlniokpekcoodaaGreatDoor
open Go.RowKit

def specsO (ops : Array Oper) (n : Nat) (D : Nat → Tmp) : Bool :=
  decide (ops.size = n + 1) && (List.range n).all (fun i => ((ops[i]?).map fun o => decide (o.dst = some (D i)) && o.guard.isNone).getD false) &&
  ((ops[n]?).map fun o => o.dst.isNone && o.guard.isNone && (List.range n).all fun i => o.after.any fun e => Region.binds .any e && decide (e.on = i)).getD false &&
  (List.range n).all (fun i => (List.range n).all fun j => decide (D i = D j → i = j)) &&
  (List.range ops.size).all (fun i => ((ops[i]?).map fun o => o.after.all fun e => !Region.binds .any e || decide (e.on < i)).getD true)

theorem wp_region_specsO {P : Program} {ops : Array Oper} {Q : Exit → Act → World → Prop} {id : Nat} {a : Act} {w : World} (v : World) (n p : Nat) (D : Nat → Tmp) (U : Nat → Value → World → Prop) (N : Nat → Value → Value → World → Prop) (Fin : Value → World → Prop)
    (hm : P.follows .mixedOrders = true) (hB : specsO ops n D = true) (hsz : ∀ i, i < n → D i < a.tmps.size) (hp : p < n) (hv : Below v.heap.size v w)
    (mono : ∀ i x w w', Below w.heap.size w w' → U i x w → U i x w') (monoN : ∀ i x y w w', i < n → Below w.heap.size w w' → N i x y w → N i x y w') (hNp : ∀ x y w, N p x y w)
    (hstep : ∀ i o b wb (K : Act → World → Prop), ops[i]? = some o → i < n → Agree (slots n D) a b → Below v.heap.size v wb → (∀ e ∈ o.after, Region.binds .any e = true → U e.on (sl b (D e.on)) wb) → (∀ x w', Below wb.heap.size wb w' → U i x w' → (i ≠ p → ∀ y, U p y wb → (∀ e ∈ o.after, Region.binds .any e = true → N e.on (sl b (D e.on)) y wb) → N i x y w') → (i = p → ∀ j z, j < n → U j z wb → N j z x w') → K (b.put (some (D i)) x) w') → o.wp P b wb K Q)
    (hstore : ∀ o b wb (K : Act → World → Prop), ops[n]? = some o → Agree (slots n D) a b → Below v.heap.size v wb → (∀ i, i < n → U i (sl b (D i)) wb) → (∀ i, i < n → N i (sl b (D i)) (sl b (D p)) wb) → (∀ w', Fin (sl b (D p)) w' → K b w') → o.wp P b wb K Q)
    (he : ∀ b wb, Agree (slots n D) a b → Fin (sl b (D p)) wb → Q .normal b wb) : (Code.region id ops true).wp P Q a w := by
  unfold specsO at hB
  simp only [Bool.and_eq_true] at hB
  obtain ⟨⟨⟨⟨h1, h2⟩, h3⟩, h5⟩, h6⟩ := hB
  have hsize : ops.size = n + 1 := of_decide_eq_true h1
  have hdst : ∀ i o, ops[i]? = some o → i < n → o.dst = some (D i) ∧ o.guard = none := fun i o ho hi => by
    have := List.all_eq_true.1 h2 i (List.mem_range.2 hi)
    rw [ho] at this
    simp only [Option.map_some, Option.getD_some, Bool.and_eq_true, decide_eq_true_eq, Option.isNone_iff_eq_none] at this
    exact this
  have hinj : ∀ i j, i < n → j < n → D i = D j → i = j := fun i j hi hj => by
    have := List.all_eq_true.1 (List.all_eq_true.1 h5 i (List.mem_range.2 hi)) j (List.mem_range.2 hj)
    exact of_decide_eq_true this
  have hon : ∀ (i : Nat) (o : Oper), ops[i]? = some o → ∀ e ∈ o.after, Region.binds .any e = true → e.on < i := fun i o ho e he hbe => by
    have hi := (Array.getElem?_eq_some_iff.1 ho).1
    have hlt := List.all_eq_true.1 h6 i (List.mem_range.2 hi)
    rw [ho] at hlt
    simp only [Option.map_some, Option.getD_some] at hlt
    have := (Array.all_eq_true_iff_forall_mem.1 hlt) e he
    rw [hbe] at this
    simpa using this
  refine wp_region_keepsB (fun a0 d b wb => Agree (slots n D) a0 b ∧ b.tmps.size = a0.tmps.size ∧ ((d n = false ∧ Below v.heap.size v wb ∧ (∀ i, i < n → d i = true → U i (sl b (D i)) wb) ∧ (d p = true → ∀ i, i < n → d i = true → N i (sl b (D i)) (sl b (D p)) wb)) ∨ (d n = true ∧ (∀ i, i < n → d i = true) ∧ Fin (sl b (D p)) wb))) hm h6 ⟨Agree.refl _ _, rfl, .inl ⟨rfl, hv.drew, (fun i hi h => by cases h), fun h => by cases h⟩⟩ ?_ ?_
  · intro d b wb i o K ho hd hdep hI hK
    obtain ⟨hA, hbs, hI⟩ := hI
    have hi : i < n + 1 := by rw [← hsize]; exact (Array.getElem?_eq_some_iff.1 ho).1
    by_cases hin : i < n
    · obtain ⟨e1, e2⟩ := hdst i o ho hin
      rcases hI with ⟨hdn, hbv, hU, hN⟩ | ⟨_, hdn, _⟩
      · have hUd : ∀ e ∈ o.after, Region.binds .any e = true → U e.on (sl b (D e.on)) wb := fun e hee hb => hU e.on (by have := hon i o ho e hee hb; omega) (hdep e hee hb)
        refine wpOp_of ho e2 (hstep i o b wb K ho hin hA hbv hUd fun x w' hb hx hq hp2 => hK _ _ ⟨hA.put (mem_slots hin) x, (size_put _ _ _).trans hbs, .inl ⟨by
          show (if n = i then true else d n) = false
          rw [if_neg (by omega)]; exact hdn, bstep hbv hb hbv.size, (fun j hj hdj => by
          by_cases hji : j = i
          · subst hji
            rw [sl_eq (by rw [hbs]; exact hsz j (by omega))]
            exact hx
          · have hdj : (if j = i then true else d j) = true := hdj
            rw [if_neg hji] at hdj
            rw [sl_ne (fun e => hji (hinj j i (by omega) (by omega) e.symm))]
            exact mono _ _ _ _ hb (hU j hj hdj)), fun hdp0 j hj hdj => by
          have hdp : (if p = i then true else d p) = true := hdp0
          clear hdp0
          have hdj : (if j = i then true else d j) = true := hdj
          by_cases hip : i = p
          · subst hip
            by_cases hji : j = i
            · subst hji; exact hNp _ _ _
            · rw [if_neg hji] at hdj
              rw [sl_ne (fun e => hji (hinj j i (by omega) (by omega) e.symm)), sl_eq (by rw [hbs]; exact hsz i (by omega))]
              exact hp2 rfl j _ hj (hU j hj hdj)
          · rw [if_neg (fun e => hip e.symm)] at hdp
            rw [sl_ne (s := D p) (fun e => hip (hinj i p (by omega) (by omega) e))]
            by_cases hji : j = i
            · subst hji
              rw [sl_eq (by rw [hbs]; exact hsz j (by omega))]
              exact hq hip _ (hU p hp hdp) fun e hee hb2 => hN hdp e.on (by have := hon j o ho e hee hb2; omega) (hdep e hee hb2)
            · rw [if_neg hji] at hdj
              rw [sl_ne (fun e => hji (hinj j i (by omega) (by omega) e.symm))]
              exact monoN j _ _ _ _ hj hb (hN hdp j hj hdj)⟩⟩)
      · rw [hdn i hin] at hd; cases hd
    · obtain rfl : i = n := by omega
      rcases hI with ⟨hdn, hbv, hU, hN⟩ | ⟨hdn, _⟩
      · rw [ho] at h3
        simp only [Option.map_some, Option.getD_some, Bool.and_eq_true, Option.isNone_iff_eq_none] at h3
        obtain ⟨⟨_, e2⟩, h3⟩ := h3
        have hall : ∀ j, j < i → d j = true := fun j hj => by
          have := List.all_eq_true.1 h3 j (List.mem_range.2 hj)
          obtain ⟨k, hk, hke⟩ := Array.any_eq_true.1 this
          simp only [Bool.and_eq_true, decide_eq_true_eq] at hke
          rw [← hke.2]
          exact hdep _ (Array.getElem_mem hk) hke.1
        refine wpOp_of ho e2 (hstore o b wb K ho hA hbv (fun j hj => hU j hj (hall j hj)) (fun j hj => hN (hall p hp) j hj (hall j hj)) fun w' hf => hK _ _ ⟨hA, hbs, .inr ⟨?_, fun j hj => ?_, hf⟩⟩)
        · show (if i = i then true else d i) = true
          rw [if_pos rfl]
        · show (if j = i then true else d j) = true
          rw [if_neg (by omega)]; exact hall j hj
      · rw [hdn] at hd; cases hd
  · intro d b wb hall hI
    obtain ⟨hA, hbs, hI⟩ := hI
    rcases hI with ⟨hdn, _⟩ | ⟨_, _, hF⟩
    · rw [hall n (by omega)] at hdn; cases hdn
    · exact he b wb hA hF

end Go.Proofs.YtlniokpekcoodaaGreatDoor
