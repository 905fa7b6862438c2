/-
  A region that draws its order, whose last but one is a store that waits for all others, and whose last lays one more value.
-/
import Derived.Test.YtlniokpekcoodaaGreatDoorSpecsM
import Derived.Test.YtlniokpekcoodaaGreatDoorMap
import Derived.Test.YtlniokpekcoodaaGreatDoorGetM
import Derived.Lib.SliceRun
import Derived.Test.YtlniokpekcoodaaGreatDoorMapTopM
import Derived.Test.YtlniokpekcoodaaGreatDoorVals
set_option linter.unusedVariables false
set_option linter.unusedSimpArgs false
namespace Go.Proofs.YtlniokpekcoodaaGreatDoor
open Go.RowKit

def specsE (ops : Array Oper) (n : Nat) (D : Nat → Tmp) : Bool :=
  decide (ops.size = n + 2) && (List.range n).all (fun i => ((ops[i]?).map fun o => decide (o.dst = some (D i)) && o.guard.isNone).getD false) &&
  ((ops[n]?).map fun o => o.dst.isNone && o.guard.isNone && (List.range n).all fun i => o.after.any fun e => Region.binds .any e && (decide (e.on = i) || ((ops[e.on]?).map fun o2 => o2.after.any fun e2 => Region.binds .any e2 && decide (e2.on = i)).getD false)).getD false &&
  ((ops[n + 1]?).map fun o => decide (o.dst = some (D n)) && o.guard.isNone && o.after.any fun e => Region.binds .any e && decide (e.on = n)).getD false &&
  (List.range (n + 1)).all (fun i => (List.range (n + 1)).all fun j => decide (D i = D j → i = j)) &&
  (List.range ops.size).all (fun i => ((ops[i]?).map fun o => o.after.all fun e => decide (e.on < i)).getD true)

theorem wp_region_specs4 {P : Program} {ops : Array Oper} {Q : Exit → Act → World → Prop} {id : Nat} {a : Act} {w : World} (v : World) (n : Nat) (D : Nat → Tmp) (U : Nat → Value → World → Prop) (V : Nat → Value → Prop) (Fin : World → Prop) (Fin2 : Value → World → Prop)
    (hm : P.follows .mixedOrders = true) (hB : specsE ops n D = true) (hsz : ∀ i, i < n + 1 → D i < a.tmps.size) (hv : Below v.heap.size v w)
    (mono : ∀ i x w w', Below w.heap.size w w' → U i x w → U i x w') (hV : ∀ i x w, i < n → U i x w → V i x)
    (hstep : ∀ i o b wb (K : Act → World → Prop), ops[i]? = some o → i < n → Agree (slots (n + 1) D) a b → Below v.heap.size v wb → (∀ e ∈ o.after, Region.binds .any e = true → U e.on (sl b (D e.on)) wb) → (∀ x w', Below wb.heap.size wb w' → U i x w' → K (b.put (some (D i)) x) w') → o.wp P b wb K Q)
    (hlast : ∀ o b wb (K : Act → World → Prop), ops[n]? = some o → Agree (slots (n + 1) D) a b → Below v.heap.size v wb → (∀ i, i < n → U i (sl b (D i)) wb) → (∀ w', Fin w' → K b w') → o.wp P b wb K Q)
    (hlast2 : ∀ o b wb (K : Act → World → Prop), ops[n + 1]? = some o → Agree (slots (n + 1) D) a b → (∀ i, i < n → V i (sl b (D i))) → Fin wb → (∀ x w', Fin2 x w' → K (b.put (some (D n)) x) w') → o.wp P b wb K Q)
    (he : ∀ b wb, Agree (slots (n + 1) D) a b → (∀ i, i < n → V i (sl b (D i))) → Fin2 (sl b (D n)) wb → Q .normal b wb) : (Code.region id ops true).wp P Q a w := by
  unfold specsE at hB
  simp only [Bool.and_eq_true] at hB
  obtain ⟨⟨⟨⟨⟨h1, h2⟩, h3⟩, h4⟩, h5⟩, h6⟩ := hB
  have hsize : ops.size = n + 2 := of_decide_eq_true h1
  have hdst : ∀ i o, ops[i]? = some o → i < n → o.dst = some (D i) ∧ o.guard = none := fun i o ho hi => by
    have := List.all_eq_true.1 h2 i (List.mem_range.2 hi)
    rw [ho] at this
    simp only [Option.map_some, Option.getD_some, Bool.and_eq_true, decide_eq_true_eq, Option.isNone_iff_eq_none] at this
    exact this
  have hinj : ∀ i j, i < n + 1 → j < n + 1 → D i = D j → i = j := fun i j hi hj => by
    have := List.all_eq_true.1 (List.all_eq_true.1 h5 i (List.mem_range.2 hi)) j (List.mem_range.2 hj)
    exact of_decide_eq_true this
  refine wp_region_keeps (fun a0 d b wb => (∀ i o, ops[i]? = some o → d i = true → ∀ e ∈ o.after, Region.binds .any e = true → d e.on = true) ∧ Agree (slots (n + 1) D) a0 b ∧ b.tmps.size = a0.tmps.size ∧ ((d n = false ∧ d (n + 1) = false ∧ Below v.heap.size v wb ∧ ∀ i, i < n → d i = true → U i (sl b (D i)) wb) ∨ ((∀ i, i < n + 1 → d i = true) ∧ d (n + 1) = false ∧ (∀ i, i < n → V i (sl b (D i))) ∧ Fin wb) ∨ ((∀ i, i < n + 2 → d i = true) ∧ (∀ i, i < n → V i (sl b (D i))) ∧ Fin2 (sl b (D n)) wb))) hm h6 ⟨(fun i o _ h => by cases h), Agree.refl _ _, rfl, .inl ⟨rfl, rfl, hv.drew, fun i hi h => by cases h⟩⟩ ?_ ?_
  · intro d b wb i o K ho hd hdep hI hK
    obtain ⟨hcl, hA, hbs, hI⟩ := hI
    have hcl2 : ∀ i2 o2, ops[i2]? = some o2 → (if i2 = i then true else d i2) = true → ∀ e ∈ o2.after, Region.binds .any e = true → (if e.on = i then true else d e.on) = true := fun i2 o2 ho2 hd2 e he hb => by
      by_cases h1 : e.on = i
      · rw [if_pos h1]
      · rw [if_neg h1]
        by_cases h2 : i2 = i
        · subst h2
          obtain rfl := Option.some.inj (ho2.symm.trans ho)
          exact hdep e he hb
        · rw [if_neg h2] at hd2
          exact hcl i2 o2 ho2 hd2 e he hb
    have hi : i < n + 2 := by rw [← hsize]; exact (Array.getElem?_eq_some_iff.1 ho).1
    by_cases hin : i < n
    · rcases hI with ⟨hdn, hdn2, hbv, hU⟩ | ⟨hdn, _⟩ | ⟨hdn, _⟩
      · obtain ⟨e1, e2⟩ := hdst i o ho hin
        refine wpOp_of ho e2 (hstep i o b wb K ho hin hA hbv (fun e hee hb => ?_) fun x w' hb hx => hK _ _ ⟨hcl2, hA.put (mem_slots (by omega)) x, (size_put _ _ _).trans hbs, .inl ⟨?_, ?_, bstep hbv hb hbv.size, fun j hj hdj => ?_⟩⟩)
        · have hlt := List.all_eq_true.1 h6 i (List.mem_range.2 (by omega))
          rw [ho] at hlt
          simp only [Option.map_some, Option.getD_some] at hlt
          have := (Array.all_eq_true_iff_forall_mem.1 hlt) e hee
          exact hU e.on (by have := of_decide_eq_true this; omega) (hdep e hee hb)
        · show (if n = i then true else d n) = false
          rw [if_neg (by omega)]; exact hdn
        · show (if n + 1 = i then true else d (n + 1)) = false
          rw [if_neg (by omega)]; exact hdn2
        · by_cases hji : j = i
          · subst hji
            rw [sl_eq (by rw [hbs]; exact hsz j (by omega))]
            exact hx
          · have hdj : (if j = i then true else d j) = true := hdj
            rw [if_neg hji] at hdj
            rw [sl_ne (fun e => hji (hinj j i (by omega) (by omega) e.symm))]
            exact mono _ _ _ _ hb (hU j hj hdj)
      · rw [hdn i (by omega)] at hd; cases hd
      · rw [hdn i (by omega)] at hd; cases hd
    · by_cases hie : i = n
      · subst hie
        rcases hI with ⟨hdn, hdn2, hbv, hU⟩ | ⟨hdn, _⟩ | ⟨hdn, _⟩
        · rw [ho] at h3
          simp only [Option.map_some, Option.getD_some, Bool.and_eq_true, Option.isNone_iff_eq_none] at h3
          obtain ⟨⟨_, e2⟩, h3⟩ := h3
          have hall : ∀ j, j < i → d j = true := fun j hj => by
            have := List.all_eq_true.1 h3 j (List.mem_range.2 hj)
            obtain ⟨k, hk, hke⟩ := Array.any_eq_true.1 this
            simp only [Bool.and_eq_true, Bool.or_eq_true, decide_eq_true_eq] at hke
            have hd1 := hdep _ (Array.getElem_mem hk) hke.1
            rcases hke.2 with hk2 | hk2
            · rw [← hk2]
              exact hd1
            · cases hok : ops[(o.after[k]).on]? with
              | none => rw [hok] at hk2; simp at hk2
              | some o2 =>
                rw [hok] at hk2
                simp only [Option.map_some, Option.getD_some] at hk2
                obtain ⟨k3, hk3, hke3⟩ := Array.any_eq_true.1 hk2
                simp only [Bool.and_eq_true, decide_eq_true_eq] at hke3
                rw [← hke3.2]
                exact hcl _ o2 hok hd1 _ (Array.getElem_mem hk3) hke3.1
          exact wpOp_of ho e2 (hlast o b wb K ho hA hbv (fun j hj => hU j hj (hall j hj)) fun w' hf => hK _ _ ⟨hcl2, hA, hbs, .inr (.inl ⟨fun j hj => by
            show (if j = i then true else d j) = true
            by_cases hji : j = i
            · rw [if_pos hji]
            · rw [if_neg hji]; exact hall j (by omega), by
            show (if i + 1 = i then true else d (i + 1)) = false
            rw [if_neg (by omega)]; exact hdn2, fun j hj => hV _ _ _ hj (hU j hj (hall j hj)), hf⟩)⟩)
        · rw [hdn i (by omega)] at hd; cases hd
        · rw [hdn i (by omega)] at hd; cases hd
      · obtain rfl : i = n + 1 := by omega
        rw [ho] at h4
        simp only [Option.map_some, Option.getD_some, Bool.and_eq_true, decide_eq_true_eq, Option.isNone_iff_eq_none] at h4
        obtain ⟨⟨e1, e2⟩, h4⟩ := h4
        obtain ⟨k, hk, hke⟩ := Array.any_eq_true.1 h4
        simp only [Bool.and_eq_true, decide_eq_true_eq] at hke
        have hdn1 := hdep _ (Array.getElem_mem hk) hke.1
        rw [hke.2] at hdn1
        rcases hI with ⟨hdn, _⟩ | ⟨hdn, hdn2, hVV, hF⟩ | ⟨hdn, _⟩
        · rw [hdn] at hdn1; cases hdn1
        · exact wpOp_of ho e2 (hlast2 o b wb K ho hA hVV hF fun x w' hf => hK _ _ ⟨hcl2, hA.put (mem_slots (by omega)) x, (size_put _ _ _).trans hbs, .inr (.inr ⟨fun j hj => by
            show (if j = n + 1 then true else d j) = true
            by_cases hji : j = n + 1
            · rw [if_pos hji]
            · rw [if_neg hji]; exact hdn j (by omega), fun j hj => by
            rw [sl_ne (fun e => by have := hinj j n (by omega) (by omega) e.symm; omega)]
            exact hVV j hj, by
            rw [sl_eq (by rw [hbs]; exact hsz n (by omega))]
            exact hf⟩)⟩)
        · rw [hdn (n + 1) (by omega)] at hd; cases hd
  · intro d b wb hall hI
    obtain ⟨_, hA, hbs, hI⟩ := hI
    rcases hI with ⟨hdn, _⟩ | ⟨_, hdn, _⟩ | ⟨_, hVV, hF⟩
    · rw [hall n (by omega)] at hdn; cases hdn
    · rw [hall (n + 1) (by omega)] at hdn; cases hdn
    · exact he b wb hA hVV hF

end Go.Proofs.YtlniokpekcoodaaGreatDoor

/-
  Package tree's Drop.
-/
set_option linter.unusedVariables false
set_option linter.unusedSimpArgs false
namespace Go.Proofs.YtlniokpekcoodaaGreatDoor
open Go.RowKit Go.Sort

/-- In the midst of DeleteFunc: i kept, of the first j; from j on as it was. -/
structure DelQ (w : World) (base g n cap : Nat) (key : ByteArray) (L : List Q) (i j : Nat) (C : List Q) : Prop where
  own : OwnQ w base g n cap C
  kept : C.take i = (L.take j).filter fun q => !decide (q.1 = key)
  rest : C.drop j = L.drop j
  lt : i < j
  le : j ≤ n

theorem DelQ.later {w w' : World} {base g n cap : Nat} {key : ByteArray} {L : List Q} {i j : Nat} {C : List Q} (h : DelQ w base g n cap key L i j C) (hb : Below w.heap.size w w') : DelQ w' base g n cap key L i j C := ⟨h.own.kept hb, h.kept, h.rest, h.lt, h.le⟩

theorem DelQ.at {w : World} {base g n cap : Nat} {key : ByteArray} {L : List Q} {i j : Nat} {C : List Q} (h : DelQ w base g n cap key L i j C) (hL : L.length = n) (hj : j < n) : ∃ (h1 : j < C.length) (h2 : j < L.length), C[j] = L[j] := by
  have h1 : j < C.length := by rw [h.own.len]; exact hj
  have h2 : j < L.length := by rw [hL]; exact hj
  refine ⟨h1, h2, ?_⟩
  have := congrArg (fun l => l[0]?) h.rest
  simp only [List.getElem?_drop, Nat.add_zero] at this
  rw [List.getElem?_eq_getElem h1, List.getElem?_eq_getElem h2] at this
  exact Option.some.inj this

theorem DelQ.skip {w : World} {base g n cap : Nat} {key : ByteArray} {L : List Q} {i j : Nat} {C : List Q} (h : DelQ w base g n cap key L i j C) (hL : L.length = n) (hj : j < n) (hk : ∀ h : j < L.length, L[j].1 = key) : DelQ w base g n cap key L i (j + 1) C := by
  have h2 : j < L.length := by rw [hL]; exact hj
  refine ⟨h.own, ?_, ?_, Nat.lt_succ_of_lt h.lt, hj⟩
  · rw [h.kept, List.take_succ_eq_append_getElem h2, List.filter_append]
    simp [hk h2]
  · rw [← List.drop_drop, ← List.drop_drop, h.rest]

theorem DelQ.step {w w' : World} {base g n cap : Nat} {key : ByteArray} {L : List Q} {i j : Nat} {C : List Q} (h : DelQ w base g n cap key L i j C) (hL : L.length = n) (hj : j < n) (hk : ∀ h : j < L.length, L[j].1 ≠ key)
    (ho : ∀ h : j < C.length, OwnQ w' base g n cap (C.set i C[j])) : ∃ h1 : j < C.length, DelQ w' base g n cap key L (i + 1) (j + 1) (C.set i C[j]) := by
  have hlt := h.lt
  obtain ⟨h1, h2, e⟩ := h.at hL hj
  have hi : i < C.length := by omega
  refine ⟨h1, ho h1, ?_, ?_, by omega, hj⟩
  · rw [List.take_succ_eq_append_getElem h2, List.filter_append, ← h.kept, List.take_succ_eq_append_getElem (by simpa using hi)]
    rw [List.take_set_of_le (Nat.le_refl i)]
    simp [hk h2, e]
  · rw [List.drop_set_of_lt (by omega), ← List.drop_drop, ← List.drop_drop, h.rest]

/-- One row written. -/
theorem OwnQ.put {w : World} {base g n cap : Nat} {C : List Q} (h : OwnQ w base g n cap C) (i : Nat) (hi : i < C.length) (q : Q) (hq : q ∈ C) :
    OwnQ (setRow w g (i * 7) (qrow q).toList) base g n cap (C.set i q) ∧ w.grownBy (setRow w g (i * 7) (qrow q).toList) (some g) := by
  have hs := qrow_size h
  have s0 : (qrow q).size = 7 := hs _ (List.mem_map.2 ⟨_, hq, rfl⟩)
  obtain ⟨o1, g1⟩ := own_setRow (qrow q).toList w (i * 7) _ h.own
  have e1 : setL (flatQ C) (i * 7) (qrow q).toList = flatQ (C.set i q) := by
    unfold flatQ
    rw [setL_flat _ hs i (by simpa using hi) _ s0, List.map_set]
  rw [e1] at o1
  refine ⟨⟨by simp [h.len], o1, fun k hk => ?_⟩, g1⟩
  have hm : (C.set i q)[k] ∈ C := by
    rcases List.mem_or_eq_of_mem_set (List.getElem_mem hk) with h1 | e
    · exact h1
    · rw [e]; exact hq
  obtain ⟨i', hi', e⟩ := List.getElem_of_mem hm
  rw [← e]
  exact h.six i' hi'

/-- The zeros of m pairs. -/
def zerosP (m : Nat) : List Value := (Builtin.zeroCells (Value.agg #[.string ⟨#[]⟩, .int .i64 0, .bool false, .int .i64 0, .string ⟨#[]⟩, .slice none 0 0, .slice none 0 0]).cells m).toList

theorem one_boxD {w w1 : World} {cs : Array Value} {ty : TypeId} (h : Below (w.alloc (.cells cs ty)).heap.size (w.alloc (.cells cs ty)) w1) :
    (∀ j, w1.cell? ⟨w.heap.size, j, none⟩ = cs[j]?) ∧ (∀ j, w1.frozen? ⟨w.heap.size, j, none⟩ = false) :=
  ⟨fun j => by rw [h.cell (p := ⟨w.heap.size, j, none⟩) (by simp), World.cell?_alloc_new], fun j => by rw [h.frozen (p := ⟨w.heap.size, j, none⟩) (by simp), World.frozen?_alloc_new]⟩

/-- What DeleteFunc leaves. -/
def LeftP (w : World) (base g cap : Nat) (key : ByteArray) (L : List Q) (e : Ending) (w' : World) : Prop :=
  ∃ K : List Q, K = L.filter (fun q => !decide (q.1 = key)) ∧ e = .returned (.slice (some ⟨g, 0, none⟩) K.length cap) ∧ (∀ i (h : i < K.length), ∀ j, j < 7 → w'.cell? ⟨g, i * 7 + j, none⟩ = (qrow K[i])[j]?) ∧ K.length ≤ cap ∧ w.grownBy w' (some g)

theorem OwnQ.cells {w : World} {base g n cap : Nat} {C : List Q} (h : OwnQ w base g n cap C) (i : Nat) (hi : i < C.length) (j : Nat) (hj : j < 7) : w.cell? ⟨g, i * 7 + j, none⟩ = (qrow C[i])[j]? := by
  have hi2 : i < (C.map qrow).length := by simpa using hi
  have er : (C.map qrow)[i] = qrow C[i] := by simp
  have s0 : (qrow C[i]).size = 7 := qrow_size h _ (List.mem_map.2 ⟨_, List.getElem_mem hi, rfl⟩)
  have hn := h.len
  rw [h.own.cellAt (i * 7 + j) (by omega)]
  have := flat_get (C.map qrow) (qrow_size h) i hi2 j (by rw [er, s0]; exact hj)
  rw [flatQ, this, Array.getElem?_eq_getElem (by rw [s0]; exact hj)]
  exact congrArg some (get_congr er j _ _)

/-! ### Of no pairs -/

def Copied0 (w : World) (e : Ending) (w' : World) : Prop := ∃ a c, e = .returned (.slice a 0 c) ∧ (a = none → c = 0) ∧ c ≤ 9223372036854775807 ∧ Below w.heap.size w w'

theorem sCloneP_zero {a : Option Addr} {c : Nat} (w : World) : Calls Tryz.prog 44 #[.slice a 0 c] w (Copied0 w) := by
  cases a with
  | none =>
    have hq : ∀ wx : World, (binOp .eql 23 (.slice none 0 c) (.slice none 0 0)).run Tryz.prog wx = .ok (.bool true) wx := fun wx => Lib.run_eql_slice_nil wx 23 51 _ _ _ _ _ Tryz.underlying23
    go_enter Tryz.func44, Tryz.ntmps44
    go_wp2_with fail
    go_ret
    exact ⟨none, 0, rfl, fun _ => rfl, by omega, Below.refl _ _⟩
  | some ad =>
    have hq : ∀ wx : World, (binOp .eql 23 (.slice (some ad) 0 c) (.slice none 0 0)).run Tryz.prog wx = .ok (.bool false) wx := fun wx => Lib.run_eql_slice_nil wx 23 51 _ _ _ _ _ Tryz.underlying23
    go_enter Tryz.func44, Tryz.ntmps44
    go_wp2_with fail
    go_ret
    exact ⟨some ⟨w.heap.size, 0, none⟩, 0, rfl, fun _ => rfl, by omega, (Below.refl _ _).alloc (Nat.le_refl _) _⟩


def DropIn (w : World) (t : T) (e : Ending) (w' : World) : Prop := ∃ ds, e = .returned (.agg ds) ∧ Lies w' (fun b => w.heap.size ≤ b) t ds ∧ Below w.heap.size w w'

end Go.Proofs.YtlniokpekcoodaaGreatDoor

/-
  Package tree's Map of nothing.
-/
set_option linter.unusedVariables false
set_option linter.unusedSimpArgs false
namespace Go.Proofs.YtlniokpekcoodaaGreatDoor
open Go.RowKit Go.Sort

set_option maxRecDepth 100000 in
set_option maxHeartbeats 800000 in
theorem tMap_nil (w : World) : Calls Tryz.prog 25 #[.slice none 0 0] w fun e w' => e = .returned (.agg #[.int .i64 5, .bool false, .int .i64 0, .string ⟨#[]⟩, .slice none 0 0, .slice none 0 0]) ∧ Below w.heap.size w w' := by
  go_enter Tryz.func25, Tryz.ntmps25
  go_wp2_with fail
  refine (sCloneP_zero _).mono ?_
  rintro e w1 ⟨a, c, rfl, hn, hc, hB⟩
  obtain ⟨z1, z2⟩ := one_boxD hB
  have HB := Lib.hid (bunbox hB (Nat.le_refl w.heap.size) (by simp))
  clear hB hn
  go_wp2_with fail
  refine (sort_zero _ _ _).mono ?_
  rintro e w2 ⟨rfl, rfl⟩
  go_wp2_with fail
  refine wp_loop_rounds 1 ?_
  rw [rounds_succ]
  go_wp2_with fail
  obtain ⟨dd, hu, hdd⟩ := Tryz.structV
  refine ret_cells w1 w.heap.size [.int .i64 5, .bool false, .int .i64 0, .string ⟨#[]⟩, .slice none 0 0, .slice none 0 0] rfl Tryz.results25 rfl rfl hdd hu Tryz.sizeV (fun i hi => ⟨_, (z1 i).trans (Array.getElem?_eq_getElem (show i < 6 from hi))⟩) ?_
  exact ⟨rfl, setRow_below _ (Nat.le_refl _) _ _ _ HB.out⟩

end Go.Proofs.YtlniokpekcoodaaGreatDoor

/-
  A map of nothing.
-/
set_option linter.unusedVariables false
set_option linter.unusedSimpArgs false
namespace Go.Proofs.YtlniokpekcoodaaGreatDoor
open Go.RowKit

def T.none5 : T := .mk 5 false 0 ⟨#[]⟩ [] []
theorem none5_lies (w : World) (R : Nat → Prop) : Lies w R T.none5 #[.int .i64 5, .bool false, .int .i64 0, .string ⟨#[]⟩, .slice none 0 0, .slice none 0 0] :=
  .mk 5 false 0 ⟨#[]⟩ [] [] none 0 none 0 (fun _ => #[]) (fun _ => #[]) (by decide) (by decide) (by decide) ⟨by simp, by simp, fun _ => rfl, fun h => absurd h (by simp), by simp⟩ ⟨by simp, by simp, fun _ => rfl, fun h => absurd h (by simp), by simp⟩
    (fun i h => absurd h (by simp)) (fun i h => absurd h (by simp)) (fun i h => absurd h (by simp)) (fun i h => absurd h (by simp)) (fun i h => absurd h (by simp))

end Go.Proofs.YtlniokpekcoodaaGreatDoor
