/-
  The reference's Digits.
-/
import Derived.Test.YtfadijofnaepnaaDoorNumP
import Derived.Lib.ItoaLen
set_option linter.unusedVariables false
set_option linter.unusedSimpArgs false
namespace Go.Proofs.YtfadijofnaepnaaDoor
open Go.RowKit

theorem dec_small {m : Nat} (h : m < 10) : Lib.decDigits m = [UInt8.ofNat (48 + m)] := by rw [Lib.decDigits, dif_pos h]
theorem dec_big {m : Nat} (h : 10 ≤ m) : Lib.decDigits m = Lib.decDigits (m / 10) ++ [UInt8.ofNat (48 + m % 10)] := by rw [Lib.decDigits, dif_neg (by omega)]

theorem conv_digit (w : World) (d : Nat) (hd : d < 10) (x : Int) (hx : x = 48 + (d : Int)) : (convert 45 9 (.slice (some ⟨w.heap.size, 0, none⟩) 1 1)).run Tryd.prog (w.alloc (.cells #[.int .u8 x] 5)) = .ok (.string ⟨#[UInt8.ofNat (48 + d)]⟩) (w.alloc (.cells #[.int .u8 x] 5)) := by
  subst hx
  refine run_convert_bytes_back (P := Tryd.prog) _ 45 9 5 ⟨w.heap.size, 0, none⟩ 1 [UInt8.ofNat (48 + d)] Tryd.underlying45 Tryd.underlying5 Tryd.underlying9 (fun j hj => ?_)
  have hj0 : j = 0 := by simpa using hj
  subst hj0
  have e : (48 + (d : Int)) = ((UInt8.ofNat (48 + d)).toNat : Int) := by
    have : (UInt8.ofNat (48 + d)).toNat = 48 + d := by simp; omega
    rw [this]; simp
  exact byte_lit w _ 5 _ rfl 0 _ (by rw [e]; rfl)

set_option maxRecDepth 100000 in
set_option maxHeartbeats 4000000 in
theorem r4Digits_pos (u : Nat) (hu : u ≤ 9223372036854775807) (w : World) : Calls Tryd.prog 36 #[.int .i64 u] w fun e w' => e = .returned (.string ⟨(Lib.decDigits u).toArray⟩) ∧ Below w.heap.size w w' := by
  have hlen : (Lib.decDigits u).length ≤ 20 := by rw [Lib.decDigits_length]; exact Lib.nDigits_le20 u (by omega)
  go_enter Tryd.func36, Tryd.ntmps36
  go_wp2_with fail
  go_loopw [0, 3] (fun v0 v3 wr => ∃ (m : Nat) (acc : List UInt8), m ≤ u ∧ v0 = .int .i64 m ∧ v3 = .string ⟨acc.toArray⟩ ∧ Hid (Lib.decDigits u = Lib.decDigits m ++ acc) ∧ Below w.heap.size w wr) (fun v0 _ _ => (intOf v0).toNat)
  case atStart => exact ⟨u, [], Nat.le_refl _, rfl, rfl, by show _ = _; rw [List.append_nil], Below.refl _ _⟩
  case round =>
    obtain ⟨m, acc, hm, rfl, rfl, HD, hb⟩ := hrel
    have HBE := Lib.hid hb
    have hbs : w.heap.size ≤ wr.heap.size := hb.size
    clear hb
    have hal : (⟨acc.toArray⟩ : ByteArray).size ≤ 20 := by
      rw [Lib.size_eq]
      show acc.length ≤ 20
      have := congrArg List.length HD.out
      rw [List.length_append] at this
      omega
    have hconv := conv_digit wr (m % 10) (by omega) (48 + (m : Int) % 10) (by omega)
    obtain ⟨c, hc⟩ : ∃ c, UInt8.ofNat (48 + m % 10) = c := ⟨_, rfl⟩
    rw [hc] at hconv
    have HC := Lib.hid hc
    clear hc
    have h1z : (⟨#[c]⟩ : ByteArray).size = 1 := rfl
    have hap : Hid ((⟨#[c]⟩ : ByteArray) ++ ⟨acc.toArray⟩ = ⟨(c :: acc).toArray⟩) := app_mk [_] acc
    by_cases hm10 : m < 10
    · have HX : Hid (Lib.decDigits u = c :: acc) := by
        show _ = _
        rw [← HC.out, HD.out, dec_small hm10, Nat.mod_eq_of_lt hm10]
        rfl
      have e0 : ((m : Int) / 10 == 0) = true := by rw [beq_iff_eq]; omega
      clear hlen
      go_wp2_with fail
      go_ret
      exact ⟨congrArg (fun x => Ending.returned (.string x)) (hap.out.trans (by rw [HX.out])), HBE.out.alloc hbs _⟩
    · have HX : Hid (Lib.decDigits u = Lib.decDigits (m / 10) ++ (c :: acc)) := by
        show _ = _
        rw [← HC.out, HD.out, dec_big (by omega)]
        simp
      have e0 : ((m : Int) / 10 == 0) = false := by rw [beq_eq_false_iff_ne]; omega
      clear hlen
      go_wp2_with fail
      go_roundw
      case rel => exact ⟨m / 10, _, by omega, by go_num, by rw [hap.out], HX.out, HBE.out.alloc hbs _⟩
      case measure => simp [intOf]; omega

theorem neg_tmod (m : Nat) : (-(m : Int)).tmod 10 = -((m % 10 : Nat) : Int) := by
  rw [Int.neg_tmod, Int.tmod_eq_emod_of_nonneg (by omega)]
  simp
theorem neg_tdiv (m : Nat) : (-(m : Int)).tdiv 10 = -((m / 10 : Nat) : Int) := by
  rw [Int.neg_tdiv, Int.tdiv_eq_ediv_of_nonneg (by omega)]
  simp

set_option maxRecDepth 100000 in
set_option maxHeartbeats 4000000 in
theorem r4Digits_neg (u : Nat) (hu0 : 1 ≤ u) (hu : u ≤ 9223372036854775808) (w : World) : Calls Tryd.prog 36 #[.int .i64 (-(u : Int))] w fun e w' => e = .returned (.string ⟨(45 :: Lib.decDigits u).toArray⟩) ∧ Below w.heap.size w w' := by
  have hlen : (Lib.decDigits u).length ≤ 20 := by rw [Lib.decDigits_length]; exact Lib.nDigits_le20 u (by omega)
  have hneg : -(u : Int) < 0 := by omega
  go_enter Tryd.func36, Tryd.ntmps36
  go_wp2_with fail
  go_loopw [0, 3] (fun v0 v3 wr => ∃ (m : Nat) (acc : List UInt8), 1 ≤ m ∧ m ≤ u ∧ v0 = .int .i64 (-(m : Int)) ∧ v3 = .string ⟨acc.toArray⟩ ∧ Hid (Lib.decDigits u = Lib.decDigits m ++ acc) ∧ Below w.heap.size w wr) (fun v0 _ _ => (-(intOf v0)).toNat)
  case atStart => exact ⟨u, [], hu0, Nat.le_refl _, rfl, rfl, by show _ = _; rw [List.append_nil], Below.refl _ _⟩
  case round =>
    obtain ⟨m, acc, hm1, hm, rfl, rfl, HD, hb⟩ := hrel
    have HBE := Lib.hid hb
    have hbs : w.heap.size ≤ wr.heap.size := hb.size
    clear hb
    have hal : (⟨acc.toArray⟩ : ByteArray).size ≤ 20 := by
      rw [Lib.size_eq]
      show acc.length ≤ 20
      have := congrArg List.length HD.out
      rw [List.length_append] at this
      omega
    have hT := neg_tmod m
    have hQ := neg_tdiv m
    have hd10 : m % 10 < 10 := by omega
    have hconv := conv_digit wr (m % 10) hd10 (48 + ((m % 10 : Nat) : Int)) rfl
    obtain ⟨c, hc⟩ : ∃ c, UInt8.ofNat (48 + m % 10) = c := ⟨_, rfl⟩
    rw [hc] at hconv
    have HS : Hid (m < 10 → Lib.decDigits u = c :: acc) := fun h => by
      rw [← hc, HD.out, dec_small h, Nat.mod_eq_of_lt h]
      rfl
    have HG : Hid (10 ≤ m → Lib.decDigits u = Lib.decDigits (m / 10) ++ (c :: acc)) := fun h => by
      rw [← hc, HD.out, dec_big h]
      simp
    clear hc
    have hq : m / 10 < m := by omega
    have hq0 : (10 ≤ m ↔ 1 ≤ m / 10) := by omega
    obtain ⟨d, hd⟩ : ∃ d, m % 10 = d := ⟨_, rfl⟩
    obtain ⟨q, hqq⟩ : ∃ q, m / 10 = q := ⟨_, rfl⟩
    rw [hd] at hT hconv hd10
    rw [hqq] at hQ HG hq hq0
    clear hd hqq
    have h1z : (⟨#[c]⟩ : ByteArray).size = 1 := rfl
    have hap : Hid ((⟨#[c]⟩ : ByteArray) ++ ⟨acc.toArray⟩ = ⟨(c :: acc).toArray⟩) := app_mk [_] acc
    have hz3 : (⟨(c :: acc).toArray⟩ : ByteArray).size ≤ 21 := by
      rw [Lib.size_eq] at hal ⊢
      show acc.length + 1 ≤ 21
      have : acc.length ≤ 20 := hal
      omega
    have hz2 : ((⟨#[c]⟩ : ByteArray) ++ ⟨acc.toArray⟩).size ≤ 21 := by rw [hap.out]; exact hz3
    have h4z : (⟨#[45]⟩ : ByteArray).size = 1 := rfl
    have hfin : Hid ((⟨#[45]⟩ : ByteArray) ++ ⟨(c :: acc).toArray⟩ = ⟨(45 :: c :: acc).toArray⟩) := app_mk [45] (c :: acc)
    by_cases hm10 : 10 ≤ m
    case neg =>
      have e0 : (-(q : Int) == 0) = true := by rw [beq_iff_eq]; omega
      have HX := Lib.hid (HS.out (by omega))
      clear hlen hm10 hq0 HS HG
      rcases Nat.eq_zero_or_pos d with hd0 | hd0
      · subst hd0
        rw [show (48 + ((0 : Nat) : Int)) = 48 from rfl] at hconv
        go_wp2_with fail
        go_ret
        exact ⟨congrArg (fun x => Ending.returned (.string x)) (by rw [hap.out, hfin.out, HX.out]), HBE.out.alloc hbs _⟩
      · have hdn : -(d : Int) < 0 := by omega
        go_wp2_with fail
        go_ret
        exact ⟨congrArg (fun x => Ending.returned (.string x)) (by rw [hap.out, hfin.out, HX.out]), HBE.out.alloc hbs _⟩
    case pos =>
      have hq1 : 1 ≤ q := hq0.1 hm10
      have e0 : (-(q : Int) == 0) = false := by rw [beq_eq_false_iff_ne]; omega
      have HX := Lib.hid (HG.out hm10)
      clear hlen hm10 hq0 HS HG
      rcases Nat.eq_zero_or_pos d with hd0 | hd0
      · subst hd0
        rw [show (48 + ((0 : Nat) : Int)) = 48 from rfl] at hconv
        go_wp2_with fail
        go_roundw
        case rel => exact ⟨q, _, hq1, by omega, rfl, by rw [hap.out], HX.out, HBE.out.alloc hbs _⟩
        case measure => simp [intOf]; omega
      · have hdn : -(d : Int) < 0 := by omega
        go_wp2_with fail
        go_roundw
        case rel => exact ⟨q, _, hq1, by omega, rfl, by rw [hap.out], HX.out, HBE.out.alloc hbs _⟩
        case measure => simp [intOf]; omega

end Go.Proofs.YtfadijofnaepnaaDoor
