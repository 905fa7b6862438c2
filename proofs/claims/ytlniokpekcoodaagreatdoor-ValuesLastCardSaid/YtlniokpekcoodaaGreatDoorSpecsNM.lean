/-
  The rule of XSpecsL, with what each value has to do with the variable that is made in the midst.
-/
import Derived.Test.YtlniokpekcoodaaGreatDoorSpecsL
import Derived.Test.YtlniokpekcoodaaGreatDoorCPrintM
import Derived.Lib.ItoaLen
set_option linter.unusedVariables false
set_option linter.unusedSimpArgs false
namespace Go.Proofs.YtlniokpekcoodaaGreatDoor
open Go.RowKit

theorem wp_region_specsN {P : Program} {ops : Array Oper} {Q : Exit → Act → World → Prop} {id : Nat} {a : Act} {w : World} (v : World) (n p : Nat) (D : Nat → Tmp) (L : Nat → Bool) (U : Nat → Value → World → Prop) (N : Nat → Value → Value → World → Prop) (V : Nat → Value → Prop) (Fin : Value → World → Prop)
    (hm : P.follows .mixedOrders = true) (hB : specsL ops n D L = true) (hsz : ∀ i, i < n + 1 → D i < a.tmps.size) (hp : p < n) (hpl : L p = false) (hv : Below v.heap.size v w)
    (mono : ∀ i x w w', Below w.heap.size w w' → U i x w → U i x w') (monoN : ∀ i x y w w', i < n → Below w.heap.size w w' → N i x y w → N i x y w') (hNL : ∀ i x y w, L i = true → N i x y w) (hNp : ∀ x y w, N p x y w) (hV : ∀ i x w, i < n → U i x w → V i x) (hL : ∀ i x w, i < n → L i = true → V i x → U i x w)
    (hstep : ∀ i o b wb (K : Act → World → Prop), ops[i]? = some o → i < n → L i = false → Agree (slots (n + 1) D) a b → Below v.heap.size v wb → (∀ e ∈ o.after, Region.binds .any e = true → U e.on (sl b (D e.on)) wb) → (∀ x w', Below wb.heap.size wb w' → U i x w' → (i ≠ p → ∀ y, U p y wb → (∀ e ∈ o.after, Region.binds .any e = true → N e.on (sl b (D e.on)) y wb) → N i x y w') → (i = p → ∀ j z, j < n → U j z wb → N j z x w') → K (b.put (some (D i)) x) w') → o.wp P b wb K Q)
    (hlate : ∀ i o b wb (K : Act → World → Prop), ops[i]? = some o → i < n → L i = true → Agree (slots (n + 1) D) a b → (∀ e ∈ o.after, Region.binds .any e = true → V e.on (sl b (D e.on))) → (∀ x, V i x → K (b.put (some (D i)) x) wb) → o.wp P b wb K Q)
    (hstore : ∀ o b wb (K : Act → World → Prop), ops[n]? = some o → Agree (slots (n + 1) D) a b → Below v.heap.size v wb → (∀ i, i < n → L i = false → U i (sl b (D i)) wb) → (∀ i, i < n → L i = false → N i (sl b (D i)) (sl b (D p)) wb) → (∀ w', Fin (sl b (D p)) w' → K b w') → o.wp P b wb K Q)
    (hlast : ∀ o b wb (K : Act → World → Prop), ops[n + 1]? = some o → Agree (slots (n + 1) D) a b → (∀ i, i < n → V i (sl b (D i))) → (∀ x, V n x → K (b.put (some (D n)) x) wb) → o.wp P b wb K Q)
    (he : ∀ b wb, Agree (slots (n + 1) D) a b → (∀ i, i < n + 1 → V i (sl b (D i))) → Fin (sl b (D p)) wb → Q .normal b wb) : (Code.region id ops true).wp P Q a w := by
  unfold specsL at hB
  simp only [Bool.and_eq_true] at hB
  obtain ⟨⟨⟨⟨⟨h1, h2⟩, h3⟩, h4⟩, h5⟩, h6⟩ := hB
  have hsize : ops.size = n + 2 := of_decide_eq_true h1
  have hdst : ∀ i o, ops[i]? = some o → i < n → o.dst = some (D i) ∧ o.guard = none := fun i o ho hi => by
    have := List.all_eq_true.1 h2 i (List.mem_range.2 hi)
    rw [ho] at this
    simp only [Option.map_some, Option.getD_some, Bool.and_eq_true, decide_eq_true_eq, Option.isNone_iff_eq_none] at this
    exact this
  have hinj : ∀ i j, i < n + 1 → j < n + 1 → D i = D j → i = j := fun i j hi hj => by
    have := List.all_eq_true.1 (List.all_eq_true.1 h5 i (List.mem_range.2 hi)) j (List.mem_range.2 hj)
    exact of_decide_eq_true this
  have hon : ∀ (i : Nat) (o : Oper), ops[i]? = some o → ∀ e ∈ o.after, Region.binds .any e = true → e.on < i := fun i o ho e he hbe => by
    have hi := (Array.getElem?_eq_some_iff.1 ho).1
    have hlt := List.all_eq_true.1 h6 i (List.mem_range.2 hi)
    rw [ho] at hlt
    simp only [Option.map_some, Option.getD_some] at hlt
    have := (Array.all_eq_true_iff_forall_mem.1 hlt) e he
    rw [hbe] at this
    simpa using this
  refine wp_region_keepsB (fun a0 d b wb => Agree (slots (n + 1) D) a0 b ∧ b.tmps.size = a0.tmps.size ∧ ((d n = false ∧ d (n + 1) = false ∧ Below v.heap.size v wb ∧ (∀ i, i < n → d i = true → U i (sl b (D i)) wb) ∧ (d p = true → ∀ i, i < n → d i = true → N i (sl b (D i)) (sl b (D p)) wb)) ∨ ((∀ i, i < n → L i = false → d i = true) ∧ d n = true ∧ d (n + 1) = false ∧ (∀ i, i < n → d i = true → V i (sl b (D i))) ∧ Fin (sl b (D p)) wb) ∨ ((∀ i, i < n + 2 → d i = true) ∧ (∀ i, i < n + 1 → V i (sl b (D i))) ∧ Fin (sl b (D p)) wb))) hm h6 ⟨Agree.refl _ _, rfl, .inl ⟨rfl, rfl, hv.drew, (fun i hi h => by cases h), fun h => by cases h⟩⟩ ?_ ?_
  · intro d b wb i o K ho hd hdep hI hK
    obtain ⟨hA, hbs, hI⟩ := hI
    have hi : i < n + 2 := by rw [← hsize]; exact (Array.getElem?_eq_some_iff.1 ho).1
    by_cases hin : i < n
    · obtain ⟨e1, e2⟩ := hdst i o ho hin
      rcases hI with ⟨hdn, hdn2, hbv, hU, hN⟩ | ⟨hdl, hdn, hdn2, hVV, hF⟩ | ⟨hdn, _⟩
      · have hUd : ∀ e ∈ o.after, Region.binds .any e = true → U e.on (sl b (D e.on)) wb := fun e hee hb => hU e.on (by have := hon i o ho e hee hb; omega) (hdep e hee hb)
        have fin : ∀ x w', Below wb.heap.size wb w' → U i x w' → (i ≠ p → ∀ y, U p y wb → (∀ e ∈ o.after, Region.binds .any e = true → N e.on (sl b (D e.on)) y wb) → N i x y w') → (i = p → ∀ j z, j < n → U j z wb → N j z x w') → K (b.put (some (D i)) x) w' := fun x w' hb hx hq hp2 => hK _ _ ⟨hA.put (mem_slots (by omega)) x, (size_put _ _ _).trans hbs, .inl ⟨by
          show (if n = i then true else d n) = false
          rw [if_neg (by omega)]; exact hdn, by
          show (if n + 1 = i then true else d (n + 1)) = false
          rw [if_neg (by omega)]; exact hdn2, bstep hbv hb hbv.size, (fun j hj hdj => by
          by_cases hji : j = i
          · subst hji
            rw [sl_eq (by rw [hbs]; exact hsz j (by omega))]
            exact hx
          · have hdj : (if j = i then true else d j) = true := hdj
            rw [if_neg hji] at hdj
            rw [sl_ne (fun e => hji (hinj j i (by omega) (by omega) e.symm))]
            exact mono _ _ _ _ hb (hU j hj hdj)), fun hdp0 j hj hdj => by
          have hdp : (if p = i then true else d p) = true := hdp0
          clear hdp0
          have hdj : (if j = i then true else d j) = true := hdj
          by_cases hip : i = p
          · subst hip
            by_cases hji : j = i
            · subst hji; exact hNp _ _ _
            · rw [if_neg hji] at hdj
              rw [sl_ne (fun e => hji (hinj j i (by omega) (by omega) e.symm)), sl_eq (by rw [hbs]; exact hsz i (by omega))]
              exact hp2 rfl j _ hj (hU j hj hdj)
          · rw [if_neg (fun e => hip e.symm)] at hdp
            rw [sl_ne (s := D p) (fun e => hip (hinj i p (by omega) (by omega) e))]
            by_cases hji : j = i
            · subst hji
              rw [sl_eq (by rw [hbs]; exact hsz j (by omega))]
              exact hq hip _ (hU p hp hdp) fun e hee hb2 => hN hdp e.on (by have := hon j o ho e hee hb2; omega) (hdep e hee hb2)
            · rw [if_neg hji] at hdj
              rw [sl_ne (fun e => hji (hinj j i (by omega) (by omega) e.symm))]
              exact monoN j _ _ _ _ hj hb (hN hdp j hj hdj)⟩⟩
        cases hLi : L i with
        | false => exact wpOp_of ho e2 (hstep i o b wb K ho hin hLi hA hbv hUd fin)
        | true => exact wpOp_of ho e2 (hlate i o b wb K ho hin hLi hA (fun e hee hb => hV _ _ _ (by have := hon i o ho e hee hb; omega) (hUd e hee hb)) fun x hx => fin x wb (Below.refl _ _) (hL i x wb hin hLi hx) (fun _ y _ _ => hNL i x y wb hLi) (fun e => by rw [e, hpl] at hLi; cases hLi))
      · have hLi : L i = true := by
          cases hLi : L i with
          | true => rfl
          | false => rw [hdl i hin hLi] at hd; cases hd
        have hpi : p ≠ i := fun e => by rw [← e, hpl] at hLi; cases hLi
        refine wpOp_of ho e2 (hlate i o b wb K ho hin hLi hA (fun e hee hb => hVV _ (by have := hon i o ho e hee hb; omega) (hdep e hee hb)) fun x hx => hK _ _ ⟨hA.put (mem_slots (by omega)) x, (size_put _ _ _).trans hbs, .inr (.inl ⟨fun j hj hLj => ?_, ?_, ?_, fun j hj hdj => ?_, ?_⟩)⟩)
        · show (if j = i then true else d j) = true
          by_cases hji : j = i
          · rw [if_pos hji]
          · rw [if_neg hji]; exact hdl j hj hLj
        · show (if n = i then true else d n) = true
          rw [if_neg (by omega)]; exact hdn
        · show (if n + 1 = i then true else d (n + 1)) = false
          rw [if_neg (by omega)]; exact hdn2
        · by_cases hji : j = i
          · subst hji
            rw [sl_eq (by rw [hbs]; exact hsz j (by omega))]
            exact hx
          · have hdj : (if j = i then true else d j) = true := hdj
            rw [if_neg hji] at hdj
            rw [sl_ne (fun e => hji (hinj j i (by omega) (by omega) e.symm))]
            exact hVV j hj hdj
        · rw [sl_ne (fun e => hpi (hinj p i (by omega) (by omega) e.symm))]
          exact hF
      · rw [hdn i (by omega)] at hd; cases hd
    · by_cases hie : i = n
      · subst hie
        rcases hI with ⟨hdn, hdn2, hbv, hU, hN⟩ | ⟨_, hdn, _⟩ | ⟨hdn, _⟩
        · rw [ho] at h3
          simp only [Option.map_some, Option.getD_some, Bool.and_eq_true, Option.isNone_iff_eq_none] at h3
          obtain ⟨⟨_, e2⟩, h3⟩ := h3
          have hall : ∀ j, j < i → L j = false → d j = true := fun j hj hLj => by
            have := List.all_eq_true.1 h3 j (List.mem_range.2 hj)
            rw [hLj, Bool.false_or] at this
            obtain ⟨k, hk, hke⟩ := Array.any_eq_true.1 this
            simp only [Bool.and_eq_true, decide_eq_true_eq] at hke
            rw [← hke.2]
            exact hdep _ (Array.getElem_mem hk) hke.1
          refine wpOp_of ho e2 (hstore o b wb K ho hA hbv (fun j hj hLj => hU j hj (hall j hj hLj)) (fun j hj hLj => hN (hall p hp hpl) j hj (hall j hj hLj)) fun w' hf => hK _ _ ⟨hA, hbs, .inr (.inl ⟨fun j hj hLj => ?_, ?_, ?_, fun j hj hdj => ?_, hf⟩)⟩)
          · show (if j = i then true else d j) = true
            rw [if_neg (by omega)]; exact hall j hj hLj
          · show (if i = i then true else d i) = true
            rw [if_pos rfl]
          · show (if i + 1 = i then true else d (i + 1)) = false
            rw [if_neg (by omega)]; exact hdn2
          · have hdj : (if j = i then true else d j) = true := hdj
            rw [if_neg (by omega)] at hdj
            exact hV _ _ _ hj (hU j hj hdj)
        · rw [hdn] at hd; cases hd
        · rw [hdn i (by omega)] at hd; cases hd
      · obtain rfl : i = n + 1 := by omega
        rw [ho] at h4
        simp only [Option.map_some, Option.getD_some, Bool.and_eq_true, decide_eq_true_eq, Option.isNone_iff_eq_none] at h4
        obtain ⟨⟨e1, e2⟩, h4⟩ := h4
        have hall : ∀ j, j < n + 1 → d j = true := fun j hj => by
          have := List.all_eq_true.1 h4 j (List.mem_range.2 hj)
          obtain ⟨k, hk, hke⟩ := Array.any_eq_true.1 this
          simp only [Bool.and_eq_true, decide_eq_true_eq] at hke
          rw [← hke.2]
          exact hdep _ (Array.getElem_mem hk) hke.1
        rcases hI with ⟨hdn, _⟩ | ⟨_, hdn, hdn2, hVV, hF⟩ | ⟨hdn, _⟩
        · rw [hall n (by omega)] at hdn; cases hdn
        · exact wpOp_of ho e2 (hlast o b wb K ho hA (fun j hj => hVV j hj (hall j (by omega))) fun x hx => hK _ _ ⟨hA.put (mem_slots (by omega)) x, (size_put _ _ _).trans hbs, .inr (.inr ⟨fun j hj => by
            show (if j = n + 1 then true else d j) = true
            by_cases hji : j = n + 1
            · rw [if_pos hji]
            · rw [if_neg hji]; exact hall j (by omega), fun j hj => by
            by_cases hjn : j = n
            · subst hjn
              rw [sl_eq (by rw [hbs]; exact hsz j (by omega))]
              exact hx
            · rw [sl_ne (fun e => by have := hinj j n (by omega) (by omega) e.symm; omega)]
              exact hVV j (by omega) (hall j (by omega)), by
            rw [sl_ne (fun e => by have := hinj p n (by omega) (by omega) e.symm; omega)]
            exact hF⟩)⟩)
        · rw [hdn (n + 1) (by omega)] at hd; cases hd
  · intro d b wb hall hI
    obtain ⟨hA, hbs, hI⟩ := hI
    rcases hI with ⟨hdn, _⟩ | ⟨_, _, hdn, _⟩ | ⟨_, hVV, hF⟩
    · rw [hall n (by omega)] at hdn; cases hdn
    · rw [hall (n + 1) (by omega)] at hdn; cases hdn
    · exact he b wb hA hVV hF

end Go.Proofs.YtlniokpekcoodaaGreatDoor

/-
  The reference's Digits.
-/
set_option linter.unusedVariables false
set_option linter.unusedSimpArgs false
namespace Go.Proofs.YtlniokpekcoodaaGreatDoor
open Go.RowKit

theorem dec_small {m : Nat} (h : m < 10) : Lib.decDigits m = [UInt8.ofNat (48 + m)] := by rw [Lib.decDigits, dif_pos h]
theorem dec_big {m : Nat} (h : 10 ≤ m) : Lib.decDigits m = Lib.decDigits (m / 10) ++ [UInt8.ofNat (48 + m % 10)] := by rw [Lib.decDigits, dif_neg (by omega)]

theorem conv_digit (w : World) (d : Nat) (hd : d < 10) (x : Int) (hx : x = 48 + (d : Int)) : (convert 67 9 (.slice (some ⟨w.heap.size, 0, none⟩) 1 1)).run Tryz.prog (w.alloc (.cells #[.int .u8 x] 5)) = .ok (.string ⟨#[UInt8.ofNat (48 + d)]⟩) (w.alloc (.cells #[.int .u8 x] 5)) := by
  subst hx
  refine run_convert_bytes_back (P := Tryz.prog) _ 67 9 5 ⟨w.heap.size, 0, none⟩ 1 [UInt8.ofNat (48 + d)] Tryz.underlying67 Tryz.underlying5 Tryz.underlying9 (fun j hj => ?_)
  have hj0 : j = 0 := by simpa using hj
  subst hj0
  have e : (48 + (d : Int)) = ((UInt8.ofNat (48 + d)).toNat : Int) := by
    have : (UInt8.ofNat (48 + d)).toNat = 48 + d := by simp; omega
    rw [this]; simp
  exact byte_lit w _ 5 _ rfl 0 _ (by rw [e]; rfl)

set_option maxRecDepth 100000 in
set_option maxHeartbeats 4000000 in
theorem r4Digits_pos (u : Nat) (hu : u ≤ 9223372036854775807) (w : World) : Calls Tryz.prog 21 #[.int .i64 u] w fun e w' => e = .returned (.string ⟨(Lib.decDigits u).toArray⟩) ∧ Below w.heap.size w w' := by
  have hlen : (Lib.decDigits u).length ≤ 20 := by rw [Lib.decDigits_length]; exact Lib.nDigits_le20 u (by omega)
  go_enter Tryz.func21, Tryz.ntmps21
  go_wp2_with fail
  go_loopw [0, 3] (fun v0 v3 wr => ∃ (m : Nat) (acc : List UInt8), m ≤ u ∧ v0 = .int .i64 m ∧ v3 = .string ⟨acc.toArray⟩ ∧ Hid (Lib.decDigits u = Lib.decDigits m ++ acc) ∧ Below w.heap.size w wr) (fun v0 _ _ => (intOf v0).toNat)
  case atStart => exact ⟨u, [], Nat.le_refl _, rfl, rfl, by show _ = _; rw [List.append_nil], Below.refl _ _⟩
  case round =>
    obtain ⟨m, acc, hm, rfl, rfl, HD, hb⟩ := hrel
    have HBE := Lib.hid hb
    have hbs : w.heap.size ≤ wr.heap.size := hb.size
    clear hb
    have hal : (⟨acc.toArray⟩ : ByteArray).size ≤ 20 := by
      rw [Lib.size_eq]
      show acc.length ≤ 20
      have := congrArg List.length HD.out
      rw [List.length_append] at this
      omega
    have hconv := conv_digit wr (m % 10) (by omega) (48 + (m : Int) % 10) (by omega)
    obtain ⟨c, hc⟩ : ∃ c, UInt8.ofNat (48 + m % 10) = c := ⟨_, rfl⟩
    rw [hc] at hconv
    have HC := Lib.hid hc
    clear hc
    have h1z : (⟨#[c]⟩ : ByteArray).size = 1 := rfl
    have hap : Hid ((⟨#[c]⟩ : ByteArray) ++ ⟨acc.toArray⟩ = ⟨(c :: acc).toArray⟩) := app_mk [_] acc
    by_cases hm10 : m < 10
    · have HX : Hid (Lib.decDigits u = c :: acc) := by
        show _ = _
        rw [← HC.out, HD.out, dec_small hm10, Nat.mod_eq_of_lt hm10]
        rfl
      have e0 : ((m : Int) / 10 == 0) = true := by rw [beq_iff_eq]; omega
      clear hlen
      go_wp2_with fail
      go_ret
      exact ⟨congrArg (fun x => Ending.returned (.string x)) (hap.out.trans (by rw [HX.out])), HBE.out.alloc hbs _⟩
    · have HX : Hid (Lib.decDigits u = Lib.decDigits (m / 10) ++ (c :: acc)) := by
        show _ = _
        rw [← HC.out, HD.out, dec_big (by omega)]
        simp
      have e0 : ((m : Int) / 10 == 0) = false := by rw [beq_eq_false_iff_ne]; omega
      clear hlen
      go_wp2_with fail
      go_roundw
      case rel => exact ⟨m / 10, _, by omega, by go_num, by rw [hap.out], HX.out, HBE.out.alloc hbs _⟩
      case measure => simp [intOf]; omega

theorem neg_tmod (m : Nat) : (-(m : Int)).tmod 10 = -((m % 10 : Nat) : Int) := by
  rw [Int.neg_tmod, Int.tmod_eq_emod_of_nonneg (by omega)]
  simp
theorem neg_tdiv (m : Nat) : (-(m : Int)).tdiv 10 = -((m / 10 : Nat) : Int) := by
  rw [Int.neg_tdiv, Int.tdiv_eq_ediv_of_nonneg (by omega)]
  simp

set_option maxRecDepth 100000 in
set_option maxHeartbeats 4000000 in
theorem r4Digits_neg (u : Nat) (hu0 : 1 ≤ u) (hu : u ≤ 9223372036854775808) (w : World) : Calls Tryz.prog 21 #[.int .i64 (-(u : Int))] w fun e w' => e = .returned (.string ⟨(45 :: Lib.decDigits u).toArray⟩) ∧ Below w.heap.size w w' := by
  have hlen : (Lib.decDigits u).length ≤ 20 := by rw [Lib.decDigits_length]; exact Lib.nDigits_le20 u (by omega)
  have hneg : -(u : Int) < 0 := by omega
  go_enter Tryz.func21, Tryz.ntmps21
  go_wp2_with fail
  go_loopw [0, 3] (fun v0 v3 wr => ∃ (m : Nat) (acc : List UInt8), 1 ≤ m ∧ m ≤ u ∧ v0 = .int .i64 (-(m : Int)) ∧ v3 = .string ⟨acc.toArray⟩ ∧ Hid (Lib.decDigits u = Lib.decDigits m ++ acc) ∧ Below w.heap.size w wr) (fun v0 _ _ => (-(intOf v0)).toNat)
  case atStart => exact ⟨u, [], hu0, Nat.le_refl _, rfl, rfl, by show _ = _; rw [List.append_nil], Below.refl _ _⟩
  case round =>
    obtain ⟨m, acc, hm1, hm, rfl, rfl, HD, hb⟩ := hrel
    have HBE := Lib.hid hb
    have hbs : w.heap.size ≤ wr.heap.size := hb.size
    clear hb
    have hal : (⟨acc.toArray⟩ : ByteArray).size ≤ 20 := by
      rw [Lib.size_eq]
      show acc.length ≤ 20
      have := congrArg List.length HD.out
      rw [List.length_append] at this
      omega
    have hT := neg_tmod m
    have hQ := neg_tdiv m
    have hd10 : m % 10 < 10 := by omega
    have hconv := conv_digit wr (m % 10) hd10 (48 + ((m % 10 : Nat) : Int)) rfl
    obtain ⟨c, hc⟩ : ∃ c, UInt8.ofNat (48 + m % 10) = c := ⟨_, rfl⟩
    rw [hc] at hconv
    have HS : Hid (m < 10 → Lib.decDigits u = c :: acc) := fun h => by
      rw [← hc, HD.out, dec_small h, Nat.mod_eq_of_lt h]
      rfl
    have HG : Hid (10 ≤ m → Lib.decDigits u = Lib.decDigits (m / 10) ++ (c :: acc)) := fun h => by
      rw [← hc, HD.out, dec_big h]
      simp
    clear hc
    have hq : m / 10 < m := by omega
    have hq0 : (10 ≤ m ↔ 1 ≤ m / 10) := by omega
    obtain ⟨d, hd⟩ : ∃ d, m % 10 = d := ⟨_, rfl⟩
    obtain ⟨q, hqq⟩ : ∃ q, m / 10 = q := ⟨_, rfl⟩
    rw [hd] at hT hconv hd10
    rw [hqq] at hQ HG hq hq0
    clear hd hqq
    have h1z : (⟨#[c]⟩ : ByteArray).size = 1 := rfl
    have hap : Hid ((⟨#[c]⟩ : ByteArray) ++ ⟨acc.toArray⟩ = ⟨(c :: acc).toArray⟩) := app_mk [_] acc
    have hz3 : (⟨(c :: acc).toArray⟩ : ByteArray).size ≤ 21 := by
      rw [Lib.size_eq] at hal ⊢
      show acc.length + 1 ≤ 21
      have : acc.length ≤ 20 := hal
      omega
    have hz2 : ((⟨#[c]⟩ : ByteArray) ++ ⟨acc.toArray⟩).size ≤ 21 := by rw [hap.out]; exact hz3
    have h4z : (⟨#[45]⟩ : ByteArray).size = 1 := rfl
    have hfin : Hid ((⟨#[45]⟩ : ByteArray) ++ ⟨(c :: acc).toArray⟩ = ⟨(45 :: c :: acc).toArray⟩) := app_mk [45] (c :: acc)
    by_cases hm10 : 10 ≤ m
    case neg =>
      have e0 : (-(q : Int) == 0) = true := by rw [beq_iff_eq]; omega
      have HX := Lib.hid (HS.out (by omega))
      clear hlen hm10 hq0 HS HG
      rcases Nat.eq_zero_or_pos d with hd0 | hd0
      · subst hd0
        rw [show (48 + ((0 : Nat) : Int)) = 48 from rfl] at hconv
        go_wp2_with fail
        go_ret
        exact ⟨congrArg (fun x => Ending.returned (.string x)) (by rw [hap.out, hfin.out, HX.out]), HBE.out.alloc hbs _⟩
      · have hdn : -(d : Int) < 0 := by omega
        go_wp2_with fail
        go_ret
        exact ⟨congrArg (fun x => Ending.returned (.string x)) (by rw [hap.out, hfin.out, HX.out]), HBE.out.alloc hbs _⟩
    case pos =>
      have hq1 : 1 ≤ q := hq0.1 hm10
      have e0 : (-(q : Int) == 0) = false := by rw [beq_eq_false_iff_ne]; omega
      have HX := Lib.hid (HG.out hm10)
      clear hlen hm10 hq0 HS HG
      rcases Nat.eq_zero_or_pos d with hd0 | hd0
      · subst hd0
        rw [show (48 + ((0 : Nat) : Int)) = 48 from rfl] at hconv
        go_wp2_with fail
        go_roundw
        case rel => exact ⟨q, _, hq1, by omega, rfl, by rw [hap.out], HX.out, HBE.out.alloc hbs _⟩
        case measure => simp [intOf]; omega
      · have hdn : -(d : Int) < 0 := by omega
        go_wp2_with fail
        go_roundw
        case rel => exact ⟨q, _, hq1, by omega, rfl, by rw [hap.out], HX.out, HBE.out.alloc hbs _⟩
        case measure => simp [intOf]; omega

end Go.Proofs.YtlniokpekcoodaaGreatDoor
