/-
  A region that draws its order, in a fence: the rules of XRegion and XSpecsB again.
-/
import Derived.Test.YtlniokpekcoodaaGreatDoorSpecsM
import Derived.OrdersIn
import Derived.RangeFuncNested
import Derived.RangeFuncBound
import Derived.RangeFuncCalls
import Derived.RangeFuncLeaves
import Derived.Shelf.Abstract
import Derived.Shelf.RegionOpen
import Derived.WalkKit
import Derived.OwnWalkIn
import Derived.TacticsInMore
import Derived.LoopNIn
import Derived.LoopIn
import Derived.Test.YtlniokpekcoodaaGreatDoorPathY
set_option linter.unusedVariables false
set_option linter.unusedSimpArgs false
namespace Go.Proofs.YtlniokpekcoodaaGreatDoor
open Go.RowKit

section
variable {F : Fence} {nn : Nat} {P : Program} {ops : Array Oper} {Q : Exit → Act → World → Prop}

theorem wpAnyIn_inv (Inv : (Nat → Bool) → Act → World → Prop)
    (hs : ∀ d a w i o, ops[i]? = some o → d i = false → (∀ e ∈ o.after, Region.binds .any e = true → d e.on = true) → Inv d a w → wpOpIn F nn P ops Q i (Inv fun k => if k = i then true else d k) a w)
    (he : ∀ l a w, l.size = ops.size → Inv (fun k => l.getD k false) a w → Region.ready .any ops l = [] → Q .normal a w) :
    ∀ (fuel : Nat) (l : Array Bool) (a : Act) (w : World), l.size = ops.size → l.toList.count false ≤ fuel → Inv (fun k => l.getD k false) a w → wpAnyIn F nn P .any ops Q fuel l a w
  | 0, l, a, w, hz, hc, h => by
    have hr : Region.ready .any ops l = [] := by
      apply List.eq_nil_iff_forall_not_mem.2
      intro j hj
      obtain ⟨h0, o, ho, _⟩ := mem_ready.1 hj
      have hj2 : j < l.size := by rw [hz]; exact (Array.getElem?_eq_some_iff.1 ho).1
      have e : l[j] = false := by simpa [Array.getD, hj2] using h0
      have : 0 < l.toList.count false := List.count_pos_iff.2 (by
        have : l.toList[j]'(by simpa using hj2) = false := by simpa using e
        rw [← this]; exact List.getElem_mem _)
      omega
    exact ⟨hr, he l a w hz h hr⟩
  | fuel + 1, l, a, w, hz, hc, h => by
    refine ⟨he l a w hz h, fun i hi => ?_⟩
    obtain ⟨h0, o, ho, hd⟩ := mem_ready.1 hi
    have hi2 : i < l.size := by rw [hz]; exact (Array.getElem?_eq_some_iff.1 ho).1
    have h0' : l.getD i false = false := by simpa [Array.getD, hi2] using h0
    refine wpOpIn_mono (fun a' w' hk => ?_) (hs _ a w i o ho h0' hd h)
    refine wpAnyIn_inv Inv hs he fuel _ a' w' (by simpa using hz) (by have := count_set hi2 h0; omega) ?_
    have : (fun k => (l.setIfInBounds i true).getD k false) = fun k => if k = i then true else l.getD k false := funext fun k => getD_set hi2 k
    rw [this]
    exact hk

/-- THE RULE: kept by whatever operation may come next, an invariant holds where all are done. -/
theorem wpIn_region_inv {id : Nat} {a : Act} {w : World} (Inv : (Nat → Bool) → Act → World → Prop) (hm : P.follows .mixedOrders = true) (hlt : (List.range ops.size).all (fun i => ((ops[i]?).map fun o => o.after.all fun e => decide (e.on < i)).getD true) = true)
    (h0 : Inv (fun _ => false) a w.drew)
    (hs : ∀ d a w i o, ops[i]? = some o → d i = false → (∀ e ∈ o.after, Region.binds .any e = true → d e.on = true) → Inv d a w → wpOpIn F nn P ops Q i (Inv fun k => if k = i then true else d k) a w)
    (he : ∀ d a w, (∀ i, i < ops.size → d i = true) → Inv d a w → Q .normal a w) : (Code.region id ops true).wpIn F nn P Q a w := by
  refine wpIn_region_any hm (wpAnyIn_inv Inv hs (fun l a w hz hi hr => he _ a w (ready_nil hz (fun i o ho e hee => ?_) hr) hi) _ _ a _ (by simp) (by simp) ?_)
  · have hi : i < ops.size := (Array.getElem?_eq_some_iff.1 ho).1
    have h1 := List.all_eq_true.1 hlt i (List.mem_range.2 hi)
    rw [ho] at h1
    simp only [Option.map_some, Option.getD_some] at h1
    have := (Array.all_eq_true_iff_forall_mem.1 h1) e hee
    simpa using this
  · have : (fun k => (Array.replicate ops.size false).getD k false) = fun _ => false := funext fun k => by
      simp [Array.getD]
    rw [this]
    exact h0

theorem wpOpIn_of {i : Nat} {o : Oper} {a : Act} {w : World} {K : Act → World → Prop} (ho : ops[i]? = some o) (hg : o.guard = none) (h : o.wpIn F nn P a w K Q) : wpOpIn F nn P ops Q i K a w := by
  unfold wpOpIn
  rw [ho]
  have hw : Region.wanted o (yielded ops a.tmps) = true := by simp [Region.wanted, hg]
  simp only [hw, if_true]
  exact h

/-- .. the invariant knowing the act at its head. -/
theorem wpIn_region_keeps {id : Nat} {a : Act} {w : World} (Inv : Act → (Nat → Bool) → Act → World → Prop) (hm : P.follows .mixedOrders = true) (hlt : (List.range ops.size).all (fun i => ((ops[i]?).map fun o => o.after.all fun e => decide (e.on < i)).getD true) = true)
    (h0 : Inv a (fun _ => false) a w.drew)
    (hs : ∀ d b w i o (K : Act → World → Prop), ops[i]? = some o → d i = false → (∀ e ∈ o.after, Region.binds .any e = true → d e.on = true) → Inv a d b w → (∀ b' w', Inv a (fun k => if k = i then true else d k) b' w' → K b' w') → wpOpIn F nn P ops Q i K b w)
    (he : ∀ d b w, (∀ i, i < ops.size → d i = true) → Inv a d b w → Q .normal b w) : (Code.region id ops true).wpIn F nn P Q a w :=
  wpIn_region_inv (Inv a) hm hlt h0 (fun d b w i o h1 h2 h3 h4 => hs d b w i o _ h1 h2 h3 h4 fun _ _ h => h) he
end

theorem wpIn_region_specs2 {F : Fence} {nn : Nat} {P : Program} {ops : Array Oper} {Q : Exit → Act → World → Prop} {id : Nat} {a : Act} {w : World} (v : World) (n : Nat) (D : Nat → Tmp) (U : Nat → Value → World → Prop) (Fin : Act → World → Prop)
    (hm : P.follows .mixedOrders = true) (hB : specsC ops n D = true) (hsz : ∀ i, i < n → D i < a.tmps.size) (hv : Below v.heap.size v w)
    (mono : ∀ i x w w', Below w.heap.size w w' → U i x w → U i x w')
    (hstep : ∀ i o b wb (K : Act → World → Prop), ops[i]? = some o → i < n → Agree (slots n D) a b → Below v.heap.size v wb → (∀ e ∈ o.after, Region.binds .any e = true → U e.on (sl b (D e.on)) wb) → (∀ x w', Below wb.heap.size wb w' → U i x w' → K (b.put (some (D i)) x) w') → o.wpIn F nn P b wb K Q)
    (hlast : ∀ o b wb (K : Act → World → Prop), ops[n]? = some o → Agree (slots n D) a b → Below v.heap.size v wb → (∀ i, i < n → U i (sl b (D i)) wb) → (∀ w', Fin b w' → K b w') → o.wpIn F nn P b wb K Q)
    (he : ∀ b wb, Agree (slots n D) a b → Fin b wb → Q .normal b wb) : (Code.region id ops true).wpIn F nn P Q a w := by
  unfold specsC at hB
  simp only [Bool.and_eq_true] at hB
  obtain ⟨⟨⟨⟨h1, h2⟩, h3⟩, h4⟩, h5⟩ := hB
  have hsize : ops.size = n + 1 := of_decide_eq_true h1
  have hdst : ∀ i o, ops[i]? = some o → i < n → o.dst = some (D i) ∧ o.guard = none := fun i o ho hi => by
    have := List.all_eq_true.1 h2 i (List.mem_range.2 hi)
    rw [ho] at this
    simp only [Option.map_some, Option.getD_some, Bool.and_eq_true, decide_eq_true_eq, Option.isNone_iff_eq_none] at this
    exact this
  have hinj : ∀ i j, i < n → j < n → D i = D j → i = j := fun i j hi hj => by
    have := List.all_eq_true.1 (List.all_eq_true.1 h4 i (List.mem_range.2 hi)) j (List.mem_range.2 hj)
    exact of_decide_eq_true this
  refine wpIn_region_keeps (fun a0 d b wb => (∀ i o, ops[i]? = some o → d i = true → ∀ e ∈ o.after, Region.binds .any e = true → d e.on = true) ∧ Agree (slots n D) a0 b ∧ b.tmps.size = a0.tmps.size ∧ ((d n = false ∧ Below v.heap.size v wb ∧ ∀ i, i < n → d i = true → U i (sl b (D i)) wb) ∨ ((∀ i, i < n + 1 → d i = true) ∧ Fin b wb))) hm h5 ⟨(fun i o _ h => by cases h), Agree.refl _ _, rfl, .inl ⟨rfl, hv.drew, fun i hi h => by cases h⟩⟩ ?_ ?_
  · intro d b wb i o K ho hd hdep hI hK
    obtain ⟨hcl, hA, hbs, hI⟩ := hI
    have hcl2 : ∀ i2 o2, ops[i2]? = some o2 → (if i2 = i then true else d i2) = true → ∀ e ∈ o2.after, Region.binds .any e = true → (if e.on = i then true else d e.on) = true := fun i2 o2 ho2 hd2 e he hb => by
      by_cases h1 : e.on = i
      · rw [if_pos h1]
      · rw [if_neg h1]
        by_cases h2 : i2 = i
        · subst h2
          obtain rfl := Option.some.inj (ho2.symm.trans ho)
          exact hdep e he hb
        · rw [if_neg h2] at hd2
          exact hcl i2 o2 ho2 hd2 e he hb
    have hi : i < n + 1 := by rw [← hsize]; exact (Array.getElem?_eq_some_iff.1 ho).1
    by_cases hin : i < n
    · rcases hI with ⟨hdn, hbv, hU⟩ | ⟨hdn, _⟩
      · obtain ⟨e1, e2⟩ := hdst i o ho hin
        refine wpOpIn_of ho e2 (hstep i o b wb K ho hin hA hbv (fun e hee hb => ?_) fun x w' hb hx => hK _ _ ⟨hcl2, hA.put (mem_slots hin) x, (size_put _ _ _).trans hbs, .inl ⟨?_, bstep hbv hb hbv.size, fun j hj hdj => ?_⟩⟩)
        · have hlt := List.all_eq_true.1 h5 i (List.mem_range.2 (by omega))
          rw [ho] at hlt
          simp only [Option.map_some, Option.getD_some] at hlt
          have := (Array.all_eq_true_iff_forall_mem.1 hlt) e hee
          exact hU e.on (by have := of_decide_eq_true this; omega) (hdep e hee hb)
        · show (if n = i then true else d n) = false
          rw [if_neg (by omega)]; exact hdn
        · by_cases hji : j = i
          · subst hji
            rw [sl_eq (by rw [hbs]; exact hsz j hj)]
            exact hx
          · have hdj : (if j = i then true else d j) = true := hdj
            rw [if_neg hji] at hdj
            rw [sl_ne (fun e => hji (hinj j i hj hin e.symm))]
            exact mono _ _ _ _ hb (hU j hj hdj)
      · rw [hdn i hi] at hd; cases hd
    · obtain rfl : i = n := by omega
      rcases hI with ⟨hdn, hbv, hU⟩ | ⟨hdn, _⟩
      · rw [ho] at h3
        simp only [Option.map_some, Option.getD_some, Bool.and_eq_true, Option.isNone_iff_eq_none] at h3
        obtain ⟨⟨_, e2⟩, h3⟩ := h3
        have hall : ∀ j, j < i → d j = true := fun j hj => by
          have := List.all_eq_true.1 h3 j (List.mem_range.2 hj)
          obtain ⟨k, hk, hke⟩ := Array.any_eq_true.1 this
          simp only [Bool.and_eq_true, Bool.or_eq_true, decide_eq_true_eq] at hke
          have hd1 := hdep _ (Array.getElem_mem hk) hke.1
          rcases hke.2 with hk2 | hk2
          · rw [← hk2]
            exact hd1
          · cases hok : ops[(o.after[k]).on]? with
            | none => rw [hok] at hk2; simp at hk2
            | some o2 =>
              rw [hok] at hk2
              simp only [Option.map_some, Option.getD_some] at hk2
              obtain ⟨k3, hk3, hke3⟩ := Array.any_eq_true.1 hk2
              simp only [Bool.and_eq_true, decide_eq_true_eq] at hke3
              rw [← hke3.2]
              exact hcl _ o2 hok hd1 _ (Array.getElem_mem hk3) hke3.1
        exact wpOpIn_of ho e2 (hlast o b wb K ho hA hbv (fun j hj => hU j hj (hall j hj)) fun w' hf => hK _ _ ⟨hcl2, hA, hbs, .inr ⟨fun j hj => by
          show (if j = i then true else d j) = true
          by_cases hji : j = i
          · rw [if_pos hji]
          · rw [if_neg hji]; exact hall j (by omega), hf⟩⟩)
      · rw [hdn i hi] at hd; cases hd
  · intro d b wb hall hI
    obtain ⟨_, hA, hbs, hI⟩ := hI
    rcases hI with ⟨hdn, _⟩ | ⟨_, hF⟩
    · rw [hall n (by omega)] at hdn; cases hdn
    · exact he b wb hA hF



end Go.Proofs.YtlniokpekcoodaaGreatDoor

/-
  Package slices' Backward, at slices of values.
-/
set_option linter.unusedVariables false
set_option linter.unusedSimpArgs false
namespace Go.Proofs.YtlniokpekcoodaaGreatDoor
open Go.RowKit Go.Shelf

attribute [local go_sem] Oper.semAt_some

/-- The places of n values, from the last one on. -/
def backs (n : Nat) : List (Fin n) := (List.finRange n).reverse
theorem backs_len (n : Nat) : (backs n).length = n := by simp [backs]
theorem backs_succ (n k : Nat) (h : k < n) : (backs n).take (k + 1) = (backs n).take k ++ [⟨n - 1 - k, by omega⟩] := by
  rw [List.take_succ_eq_append_getElem (by rw [backs_len]; exact h)]
  congr 1
  simp [backs, List.getElem_reverse]

/-- What a round keeps: what lay below n₀, and the variable that holds the slice. -/
def KeepBk (n₀ Bs : Nat) (W W' : World) : Prop := Below n₀ W W' ∧ ∀ v, W.cell? ⟨Bs, 0, none⟩ = some v → W'.cell? ⟨Bs, 0, none⟩ = some v
theorem keepBk_t {n₀ Bs : Nat} {A B C : World} (h : KeepBk n₀ Bs A B) (k : KeepBk n₀ Bs B C) : KeepBk n₀ Bs A C := ⟨h.1.trans k.1, fun v hv => k.2 v (h.2 v hv)⟩
theorem keepBk_b {n₀ Bs : Nat} {w : World} (hn : n₀ ≤ w.heap.size) (W : World) (l : Nat) (o o' : Obj) (hl : w.heap.size ≤ l) (h : W.heap[l]? = some o) (ho : o.isCells = false) (h3 : o.isWalk = false) : KeepBk n₀ Bs W (W.putObj l o') :=
  ⟨belowK_b hn W l o o' hl h ho h3, fun v hv => by
    have hne : Bs ≠ l := fun e => by
      subst e
      unfold World.cell? at hv
      rw [h] at hv
      cases o <;> first | (cases hv; done) | (cases ho; done)
    have := World.putObj_heap_other (w := W) (o := o') hne
    unfold World.cell? at hv ⊢
    rw [this]
    exact hv⟩

set_option maxRecDepth 100000 in
set_option maxHeartbeats 4000000 in
theorem back1_in (F : Fence) (m : Nat) (hf : F.fn 117) (hro : F.round = none) (hm : 1 ≤ m) (l Bs n₀ n cap : Nat) (a : Option Addr) (cl : Nat → Array Value) (hle : n ≤ cap) (hbig : n * 88 ≤ 140737488355328)
    (hsome : 0 < n → ∃ bl ol, a = some ⟨bl, ol, none⟩ ∧ bl < n₀) (h6 : ∀ i, i < n → ∃ (k : Int) (b : Bool) (q : Int) (s : ByteArray) (la : Option Addr) (ll lc : Nat) (ma : Option Addr) (ml mc : Nat), cl i = #[.int .i64 k, .bool b, .int .i64 q, .string s, .slice la ll lc, .slice ma ml mc]) (J Jx : List (Fin n) → World → Prop)
    (hY : ∀ pre x W, J pre W → pre.length < n → YieldAt F (m - 1) Tryz.prog l #[.int .i64 (x.val : Int), .agg (cl x.val)] W fun e W' =>
      (e = .returned (.bool true) ∧ J (pre ++ [x]) W' ∧ KeepBk n₀ Bs W W') ∨ (e = .returned (.bool false) ∧ Jx (pre ++ [x]) W'))
    (W : World) (hBs : W.cell? ⟨Bs, 0, none⟩ = some (.slice a n cap)) (hc : ∀ i, i < n → ∀ bl ol, a = some ⟨bl, ol, none⟩ → Row W bl (ol + i * 6) (cl i)) (h0 : J [] W) :
    CallsIn F m Tryz.prog 117 #[.func (.yield l) #[] #[], .pointer (some ⟨Bs, 0, none⟩)] W fun e W' => (∃ v, e = .returned v) ∧
      ((∃ ys, ys = backs n ∧ J ys W') ∨ (∃ pre, (∃ k, k ≤ n ∧ pre = (backs n).take k) ∧ Jx pre W')) := by
  refine callsIn_of_wp Tryz.func117 rfl hf ?_ hro
  simp only [Tryz.ntmps117, List.size_toArray, List.length_cons, List.length_nil, Nat.reduceAdd, Nat.reduceSub, Array.replicate_succ, Array.replicate_zero, List.push_toArray, List.append_toArray, List.nil_append, List.cons_append]
  have HBs := Lib.hid hBs
  have hw1 : IntKind.i64.wrap ((n : Int) - 1) = (n : Int) - 1 := IntWalk.i64_in _ (by omega)
  gi_wp2
  gi_loopw [3] (fun i wr => ∃ k : Nat, k ≤ n ∧ i = .int .i64 ((n : Int) - 1 - k) ∧ J ((backs n).take k) wr ∧ Below n₀ W wr ∧ wr.cell? ⟨Bs, 0, none⟩ = some (.slice a n cap))
    (fun i _ => (intOf i + 1).toNat)
  case atStart => exact ⟨0, Nat.zero_le _, by simp, by simpa using h0, Below.refl _ _, HBs.out⟩
  case round =>
    obtain ⟨k, hk, rfl, hJs, hnx, hbs⟩ := hrel
    clear hBs
    by_cases hlt : k < n
    · obtain ⟨bl, ol, rfl, hbl⟩ := hsome (by omega)
      obtain ⟨x, hxv⟩ : ∃ x : Fin n, x.val = n - 1 - k := ⟨⟨n - 1 - k, by omega⟩, rfl⟩
      have hsucc : (backs n).take (k + 1) = (backs n).take k ++ [x] := by rw [backs_succ n k hlt]; congr 2; exact Fin.ext hxv.symm
      obtain ⟨c0, c1, c2, c3, c4, c4l, c4c, c5, c5l, c5c, hcl⟩ := h6 x.val x.isLt
      have hr := hc x.val x.isLt bl ol rfl
      obtain ⟨fn, tmps, assign, body, hy, hR⟩ := hY _ x wr hJs (by rw [List.length_take, backs_len]; omega)
      rw [hcl] at hr hy
      obtain ⟨r0, r1, r2, r3, r4, r5⟩ := (hr.below hnx hbl).six
      have hix : ((n : Int) - 1 - k) = (x.val : Int) := by omega
      have hi1 := x.isLt
      have HBR := Lib.hid hbs
      have HSU := Lib.hid hsucc
      have hw2 : IntKind.i64.wrap ((x.val : Int) - 1) = (n : Int) - 1 - ((k + 1 : Nat) : Int) := by rw [IntWalk.i64_in _ (by omega)]; omega
      have HIX := Lib.hid hxv
      generalize hiv : x.val = i at *
      rw [hix]
      clear hsucc hcl hr hix hxv
      try dsimp only at hy
      gi_wp2
      refine hR.mono ?_
      rintro e W3 (⟨rfl, hJ3, hk3⟩ | ⟨rfl, hJx3⟩)
      · gi_wp2
        go_roundw
        case rel => exact ⟨k + 1, by omega, by first | rfl | (rw [← hw2]) | (congr 1), by rw [HSU.out]; exact hJ3, hnx.trans hk3.1, hk3.2 _ HBR.out⟩
        case measure => have := HIX.out; simp only [intOf]; omega
      · gi_wp2
        refine bodyPost_ret (results_none rfl _ _ _) rfl ?_
        exact ⟨⟨_, rfl⟩, .inr ⟨_, ⟨k + 1, by omega, HSU.out.symm⟩, hJx3⟩⟩
    · obtain rfl : k = n := by omega
      gi_wp2
      go_end0
      exact ⟨⟨_, rfl⟩, .inl ⟨_, rfl, by rw [List.take_of_length_le (by rw [backs_len]; exact Nat.le_refl _)] at hJs; exact hJs⟩⟩

set_option maxHeartbeats 1000000 in
theorem back_in (F : Fence) (m : Nat) (hf : F.fn 86) (hro : F.round = none) (a : Option Addr) (len cap : Nat) (w : World) :
    CallsIn F m Tryz.prog 86 #[.slice a len cap] w fun e w' => e = .returned (.func (.func 117) #[] #[.pointer (some ⟨w.heap.size, 0, none⟩)]) ∧ w' = w.alloc (.cells #[.slice a len cap] 22) := by
  refine callsIn_of_wp Tryz.func86 rfl hf ?_ hro
  simp only [Tryz.ntmps86, List.size_toArray, List.length_cons, List.length_nil, Nat.reduceAdd, Nat.reduceSub, Array.replicate_succ, Array.replicate_zero, List.push_toArray, List.append_toArray, List.nil_append, List.cons_append]
  gi_wp2
  go_ret
  exact ⟨rfl, rfl⟩

/-- slices.Backward of a slice of values: its places, from the last one on, each with its six cells. -/
theorem back_stops (F : Fence) (m : Nat) (hf : F.fn 117) (hro : F.round = none) (hm : 1 ≤ m) {R : Nat → Prop} {ts : List T} {cap : Nat} {a : Option Addr} {cl : Nat → Array Value} (Bs n₀ : Nat) (w : World) (hS : SliceV w R ts a cap cl) (hn₀ : n₀ ≤ w.heap.size) (hBs : w.cell? ⟨Bs, 0, none⟩ = some (.slice a ts.length cap)) (hlow : 0 < ts.length → ∀ bl ol, a = some ⟨bl, ol, none⟩ → bl < n₀) :
    SeqStopsK F m Tryz.prog 117 #[.pointer (some ⟨Bs, 0, none⟩)] (fun x : Fin ts.length => #[Value.int .i64 (x.val : Int), .agg (cl x.val)]) (KeepBk n₀ Bs) (fun ys => ys = backs ts.length)
      (fun pre => ∃ k, k ≤ ts.length ∧ pre = (backs ts.length).take k) ts.length w := fun l J Jx W hW _ _ hY h0 =>
  back1_in F m hf hro hm l Bs n₀ ts.length cap a cl hS.hdr.le hS.hdr.big (fun hp => by
    obtain ⟨b, o, e, _⟩ := hS.hdr.some hp
    exact ⟨b, o, e, hlow hp b o e⟩) (fun i hi => (hS.each i hi).six) J Jx hY W (cells_frame hW hBs) (fun i hi bl ol e => (hS.rows i hi bl ol e).below hW (by have := hlow (by omega) bl ol e; omega)) h0

/-- What only turns blocks that hold no cells keeps what lies in cells. -/
theorem Lies.keepC {w w' : World} {R : Nat → Prop} {t : T} {cs : Array Value} (h : Lies w R t cs) (hk : ∀ (b : Nat) (o : Obj), w.heap[b]? = some o → o.isCells = true → w'.heap[b]? = w.heap[b]?) : Lies w' R t cs := by
  have hcell : ∀ (b off : Nat) (v : Value), w.cell? ⟨b, off, none⟩ = some v → w'.cell? ⟨b, off, none⟩ = some v := fun b off v hv => by
    have hv2 := hv
    unfold World.cell? at hv
    cases ho : w.heap[b]? with
    | none => rw [ho] at hv; cases hv
    | some o =>
      rw [ho] at hv
      have hc : o.isCells = true := by cases o <;> first | rfl | (cases hv)
      exact (World.cell?_of_block (w := w) (a := ⟨b, off, none⟩) (hk b o ho hc)).trans hv2
  induction h with
  | mk k b n s l m la lc ma mc cl cm hk' hn hs hl hm rl rm ks il im ihl ihm =>
    exact .mk k b n s l m la lc ma mc cl cm hk' hn hs hl hm (fun i hi bl ol e j hj => hcell _ _ _ (rl i hi bl ol e j hj)) (fun i hi bl ol e j hj => hcell _ _ _ (rm i hi bl ol e j hj)) ks ihl ihm

end Go.Proofs.YtlniokpekcoodaaGreatDoor
