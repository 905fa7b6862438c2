/-
  The reference's Parse: numbers, and other texts.
-/
import Derived.Test.YtlniokpekcoodaaGreatDoorQuotedM
set_option linter.unusedVariables false
set_option linter.unusedSimpArgs false
namespace Go.Proofs.YtlniokpekcoodaaGreatDoor
open Go.RowKit

/-- What the reference's Parse says of a word that is none of the named ones: its digits behind the sign. -/
def refL (neg : Bool) (D : List UInt8) (s : ByteArray) : Array Value × Int :=
  if D = [] ∨ D.all digitB = false then (six 3 false 0 s, 0)
  else if 9223372036854775808 < valL 0 D then (six 0 false 0 ⟨#[]⟩, 9)
  else if neg = true then (six 2 false (-(valL 0 D : Int)) ⟨#[]⟩, 0)
  else if valL 0 D = 9223372036854775808 then (six 0 false 0 ⟨#[]⟩, 9)
  else (six 2 false (valL 0 D) ⟨#[]⟩, 0)
theorem ref_other {neg : Bool} {D : List UInt8} {s : ByteArray} (h : D = [] ∨ D.all digitB = false) : refL neg D s = (six 3 false 0 s, 0) := by rw [refL, if_pos h]
theorem digit_class (c : Nat) : c < 48 ∨ (48 ≤ c ∧ c ≤ 57) ∨ 57 < c := by omega
theorem digit_no {c : UInt8} (h : ¬ (48 ≤ c.toNat ∧ c.toNat ≤ 57)) : digitB c = false := Bool.eq_false_iff.2 (fun e => h (digit_iff.1 e))
theorem val_step (s : ByteArray) (k : Nat) (h : k < s.size) : valL 0 (s.data.toList.take (k + 1)) = valL 0 (s.data.toList.take k) * 10 + (s[k].toNat - 48) := by
  rw [take_one s k h, valL_append]; rfl
theorem val_take_le (l : List UInt8) (k : Nat) : valL 0 (l.take k) ≤ valL 0 l := by
  conv => rhs; rw [← List.take_append_drop k l, valL_append]
  exact valL_le _ _

def RefIn (w : World) (p : Array Value × Int) (e : Ending) (w' : World) : Prop := ParseTo w p.1 p.2 e w'
theorem ref_fin {w w' : World} {p q : Array Value × Int} {e : Ending} (h : p = q) (k : RefIn w q e w') : RefIn w p e w' := h ▸ k

set_option maxRecDepth 100000 in
set_option maxHeartbeats 4000000 in
theorem r4Parse_pos (s : ByteArray) (hs : s.size ≤ 1000000) (hn : namedB s.data.toList = false) (h0 : 0 < s.size) (hm : ((s[0].toNat : Int) == 45) = false) (w : World) :
    Calls Tryz.prog 23 #[.string s] w (RefIn w (refL false s.data.toList s)) := by
  obtain ⟨h1, h2, h3, h4, h5, h6⟩ := named_false hn
  have z2 : ¬ s = ByteArray.empty := fun e => by rw [e] at h0; exact absurd h0 (by decide)
  have z3 : ((s.size : Int) == 0) = false := by rw [beq_eq_false_iff_ne]; omega
  clear hn
  obtain ⟨dd, hu, hdd⟩ := Tryz.structV
  have DD := Lib.hid hdd
  have HU := Lib.hid hu
  clear hdd hu
  go_enter Tryz.func23, Tryz.ntmps23
  go_wp2_with fail
  go_loop [6] (fun vi => ∃ k : Nat, k ≤ s.size ∧ vi = .int .i64 k ∧ Hid (∀ i (h : i < s.size), i < k → digitB s[i] = true)) (fun vi => s.size - (intOf vi).toNat)
  case atStart => exact ⟨0, Nat.zero_le _, rfl, fun i h hi => absurd hi (Nat.not_lt_zero i)⟩
  case round =>
    obtain ⟨k, hk, rfl, HG⟩ := hrel
    by_cases hkl : k < s.size
    · rcases digit_class s[k].toNat with a1 | ⟨a1, a2⟩ | a1
      · have HX : Hid (refL false s.data.toList s = (six 3 false 0 s, 0)) := ref_other (.inr (not_all_bytes k hkl (digit_no (by omega))))
        go_wp2_with fail
        exact ret_held w.heap.size (six 3 false 0 s) Tryz.results23 rfl rfl DD.out HU.out (six_size _ _ _ _) (new_cells w (six 3 false 0 s) 25) (ref_fin HX.out ⟨rfl, own_below _ _ _⟩)
      · have HX : Hid (digitB s[k] = true) := digit_iff.2 ⟨a1, a2⟩
        go_wp2_with fail
        go_round
        case rel => exact ⟨k + 1, by omega, by go_num, fun i h hi => by
          by_cases hik : i = k
          · subst hik; exact HX.out
          · exact HG.out i h (by omega)⟩
        case measure => simp [intOf]; omega
      · have HX : Hid (refL false s.data.toList s = (six 3 false 0 s, 0)) := ref_other (.inr (not_all_bytes k hkl (digit_no (by omega))))
        go_wp2_with fail
        exact ret_held w.heap.size (six 3 false 0 s) Tryz.results23 rfl rfl DD.out HU.out (six_size _ _ _ _) (new_cells w (six 3 false 0 s) 25) (ref_fin HX.out ⟨rfl, own_below _ _ _⟩)
    · have HD : Hid (s.data.toList.all digitB = true) := all_bytes (fun i h => HG.out i h (by omega))
      go_wp2_with fail
      go_loop [7, 8] (fun vn vi => ∃ (k V : Nat), k ≤ s.size ∧ V ≤ 9223372036854775808 ∧ vi = .int .i64 k ∧ vn = .int .i64 (-(V : Int)) ∧ Hid (valL 0 (s.data.toList.take k) = V)) (fun _ vi => s.size - (intOf vi).toNat)
      case atStart => exact ⟨0, 0, Nat.zero_le _, Nat.zero_le _, rfl, rfl, rfl⟩
      case round =>
        obtain ⟨k, V, hk, hV, rfl, rfl, HV⟩ := hrel
        have HDA : Hid (∀ i (h : i < s.size), digitB s[i] = true) := fun i h => HG.out i h (by omega)
        by_cases hkl : k < s.size
        · obtain ⟨d1, d2⟩ := digit_iff.1 (HDA.out k hkl)
          have HV2 : Hid (valL 0 (s.data.toList.take (k + 1)) = V * 10 + (s[k].toNat - 48)) := by show _ = _; rw [val_step s k hkl, HV.out]
          have HO : Hid (9223372036854775808 < V * 10 + (s[k].toNat - 48) → refL false s.data.toList s = (six 0 false 0 ⟨#[]⟩, 9)) := fun h => by
            have h2 := val_take_le s.data.toList (k + 1)
            rw [HV2.out] at h2
            have hne : ¬ (s.data.toList = [] ∨ s.data.toList.all digitB = false) := by
              rw [HD.out]
              rintro (h | h)
              · rw [Lib.size_eq, h] at h0; exact absurd h0 (by simp)
              · cases h
            rw [refL, if_neg hne, if_pos (by omega)]
          rcases (by omega : 922337203685477580 < V ∨ (V ≤ 922337203685477580 ∧ 922337203685477580 ≤ V ∧ 56 < s[k].toNat) ∨ (V ≤ 922337203685477580 ∧ 922337203685477580 ≤ V ∧ s[k].toNat ≤ 56) ∨ V < 922337203685477580) with b1 | ⟨b1, b2, b3⟩ | ⟨b1, b2, b3⟩ | b1
          · have HX := Lib.hid (HO.out (by omega))
            have l1 : -(V : Int) < -922337203685477580 := by omega
            clear HO
            go_wp2_with fail
            exact ret_held w.heap.size (six 0 false 0 ⟨#[]⟩) Tryz.results23 rfl rfl DD.out HU.out (six_size _ _ _ _) (new_cells w (six 0 false 0 ⟨#[]⟩) 25) (ref_fin HX.out ⟨rfl, own_below _ _ _⟩)
          · have HX := Lib.hid (HO.out (by omega))
            have l1 : ¬ -(V : Int) < -922337203685477580 := by omega
            have l2 : (-(V : Int) == -922337203685477580) = true := by rw [beq_iff_eq]; omega
            clear HO
            go_wp2_with fail
            exact ret_held w.heap.size (six 0 false 0 ⟨#[]⟩) Tryz.results23 rfl rfl DD.out HU.out (six_size _ _ _ _) (new_cells w (six 0 false 0 ⟨#[]⟩) 25) (ref_fin HX.out ⟨rfl, own_below _ _ _⟩)
          · have l1 : ¬ -(V : Int) < -922337203685477580 := by omega
            have l2 : (-(V : Int) == -922337203685477580) = true := by rw [beq_iff_eq]; omega
            clear HO
            go_wp2_with fail
            go_round
            case rel => exact ⟨k + 1, V * 10 + (s[k].toNat - 48), by omega, by omega, by go_num, by go_num, HV2.out⟩
            case measure => simp [intOf]; omega
          · have l1 : ¬ -(V : Int) < -922337203685477580 := by omega
            have l2 : (-(V : Int) == -922337203685477580) = false := by rw [beq_eq_false_iff_ne]; omega
            clear HO
            go_wp2_with fail
            go_round
            case rel => exact ⟨k + 1, V * 10 + (s[k].toNat - 48), by omega, by omega, by go_num, by go_num, HV2.out⟩
            case measure => simp [intOf]; omega
        · have HVV : Hid (valL 0 s.data.toList = V) := by
            have := HV.out
            rw [List.take_of_length_le (by rw [← Lib.size_eq]; omega)] at this
            exact this
          have hne : ¬ (s.data.toList = [] ∨ s.data.toList.all digitB = false) := by
            rw [HD.out]
            rintro (h | h)
            · rw [Lib.size_eq, h] at h0; exact absurd h0 (by simp)
            · cases h
          by_cases hv : V = 9223372036854775808
          · have HX : Hid (refL false s.data.toList s = (six 0 false 0 ⟨#[]⟩, 9)) := by
              show _ = _
              rw [refL, if_neg hne, HVV.out, if_neg (by omega), if_neg (by decide), if_pos hv]
            have l1 : (-(V : Int) == -9223372036854775808) = true := by rw [beq_iff_eq]; omega
            clear hv hne
            go_wp2_with fail
            exact ret_held w.heap.size (six 0 false 0 ⟨#[]⟩) Tryz.results23 rfl rfl DD.out HU.out (six_size _ _ _ _) (new_cells w (six 0 false 0 ⟨#[]⟩) 25) (ref_fin HX.out ⟨rfl, own_below _ _ _⟩)
          · have HX : Hid (refL false s.data.toList s = (six 2 false V ⟨#[]⟩, 0)) := by
              show _ = _
              rw [refL, if_neg hne, HVV.out, if_neg (by omega), if_neg (by decide), if_neg hv]
            have l1 : (-(V : Int) == -9223372036854775808) = false := by rw [beq_eq_false_iff_ne]; omega
            have l3 : V < 9223372036854775808 := by omega
            clear hv hne
            go_wp2_with fail
            exact ret_held w.heap.size (six 2 false V ⟨#[]⟩) Tryz.results23 rfl rfl DD.out HU.out (six_size _ _ _ _) (new_cells w (six 2 false V ⟨#[]⟩) 25) (ref_fin HX.out ⟨rfl, own_below _ _ _⟩)

set_option maxRecDepth 100000 in
set_option maxHeartbeats 4000000 in
theorem r4Parse_neg (s : ByteArray) (hs : s.size ≤ 1000000) (hn : namedB s.data.toList = false) (h00 : 0 < s.size) (hm : ((s[0].toNat : Int) == 45) = true) (D : ByteArray) (hD : s.extract 1 s.size = D) (w : World) :
    Calls Tryz.prog 23 #[.string s] w (RefIn w (refL true D.data.toList s)) := by
  obtain ⟨h1, h2, h3, h4, h5, h6⟩ := named_false hn
  have z2 : ¬ s = ByteArray.empty := fun e => by rw [e] at h00; exact absurd h00 (by decide)
  have hDs : D.size ≤ 1000000 := by rw [← hD]; simp; omega
  clear hn
  obtain ⟨dd, hu, hdd⟩ := Tryz.structV
  have DD := Lib.hid hdd
  have HU := Lib.hid hu
  clear hdd hu
  by_cases h0 : 0 < D.size
  case neg =>
    have hDe : D.data.toList = [] := List.eq_nil_of_length_eq_zero (by rw [← Lib.size_eq]; omega)
    have hDz : D = ByteArray.empty := by rw [← Lib.mk_data D, hDe]; rfl
    have HX : Hid (refL true D.data.toList s = (six 3 false 0 s, 0)) := ref_other (.inl hDe)
    clear h0 hDs hDe
    subst hDz
    go_enter Tryz.func23, Tryz.ntmps23
    go_wp2_with fail
    exact ret_held w.heap.size (six 3 false 0 s) Tryz.results23 rfl rfl DD.out HU.out (six_size _ _ _ _) (new_cells w (six 3 false 0 s) 25) (ref_fin HX.out ⟨rfl, own_below _ _ _⟩)
  have y2 : ¬ D = ByteArray.empty := fun e => by rw [e] at h0; exact absurd h0 (by decide)
  have y3 : ((D.size : Int) == 0) = false := by rw [beq_eq_false_iff_ne]; omega
  go_enter Tryz.func23, Tryz.ntmps23
  go_wp2_with fail
  go_loop [6] (fun vi => ∃ k : Nat, k ≤ D.size ∧ vi = .int .i64 k ∧ Hid (∀ i (h : i < D.size), i < k → digitB D[i] = true)) (fun vi => D.size - (intOf vi).toNat)
  case atStart => exact ⟨0, Nat.zero_le _, rfl, fun i h hi => absurd hi (Nat.not_lt_zero i)⟩
  case round =>
    obtain ⟨k, hk, rfl, HG⟩ := hrel
    by_cases hkl : k < D.size
    · rcases digit_class D[k].toNat with a1 | ⟨a1, a2⟩ | a1
      · have HX : Hid (refL true D.data.toList s = (six 3 false 0 s, 0)) := ref_other (.inr (not_all_bytes k hkl (digit_no (by omega))))
        go_wp2_with fail
        exact ret_held w.heap.size (six 3 false 0 s) Tryz.results23 rfl rfl DD.out HU.out (six_size _ _ _ _) (new_cells w (six 3 false 0 s) 25) (ref_fin HX.out ⟨rfl, own_below _ _ _⟩)
      · have HX : Hid (digitB D[k] = true) := digit_iff.2 ⟨a1, a2⟩
        go_wp2_with fail
        go_round
        case rel => exact ⟨k + 1, by omega, by go_num, fun i h hi => by
          by_cases hik : i = k
          · subst hik; exact HX.out
          · exact HG.out i h (by omega)⟩
        case measure => simp [intOf]; omega
      · have HX : Hid (refL true D.data.toList s = (six 3 false 0 s, 0)) := ref_other (.inr (not_all_bytes k hkl (digit_no (by omega))))
        go_wp2_with fail
        exact ret_held w.heap.size (six 3 false 0 s) Tryz.results23 rfl rfl DD.out HU.out (six_size _ _ _ _) (new_cells w (six 3 false 0 s) 25) (ref_fin HX.out ⟨rfl, own_below _ _ _⟩)
    · have HD : Hid (D.data.toList.all digitB = true) := all_bytes (fun i h => HG.out i h (by omega))
      go_wp2_with fail
      go_loop [7, 8] (fun vn vi => ∃ (k V : Nat), k ≤ D.size ∧ V ≤ 9223372036854775808 ∧ vi = .int .i64 k ∧ vn = .int .i64 (-(V : Int)) ∧ Hid (valL 0 (D.data.toList.take k) = V)) (fun _ vi => D.size - (intOf vi).toNat)
      case atStart => exact ⟨0, 0, Nat.zero_le _, Nat.zero_le _, rfl, rfl, rfl⟩
      case round =>
        obtain ⟨k, V, hk, hV, rfl, rfl, HV⟩ := hrel
        have HDA : Hid (∀ i (h : i < D.size), digitB D[i] = true) := fun i h => HG.out i h (by omega)
        by_cases hkl : k < D.size
        · obtain ⟨d1, d2⟩ := digit_iff.1 (HDA.out k hkl)
          have HV2 : Hid (valL 0 (D.data.toList.take (k + 1)) = V * 10 + (D[k].toNat - 48)) := by show _ = _; rw [val_step D k hkl, HV.out]
          have HO : Hid (9223372036854775808 < V * 10 + (D[k].toNat - 48) → refL true D.data.toList s = (six 0 false 0 ⟨#[]⟩, 9)) := fun h => by
            have h2 := val_take_le D.data.toList (k + 1)
            rw [HV2.out] at h2
            have hne : ¬ (D.data.toList = [] ∨ D.data.toList.all digitB = false) := by
              rw [HD.out]
              rintro (h | h)
              · rw [Lib.size_eq, h] at h0; exact absurd h0 (by simp)
              · cases h
            rw [refL, if_neg hne, if_pos (by omega)]
          rcases (by omega : 922337203685477580 < V ∨ (V ≤ 922337203685477580 ∧ 922337203685477580 ≤ V ∧ 56 < D[k].toNat) ∨ (V ≤ 922337203685477580 ∧ 922337203685477580 ≤ V ∧ D[k].toNat ≤ 56) ∨ V < 922337203685477580) with b1 | ⟨b1, b2, b3⟩ | ⟨b1, b2, b3⟩ | b1
          · have HX := Lib.hid (HO.out (by omega))
            have l1 : -(V : Int) < -922337203685477580 := by omega
            clear HO
            go_wp2_with fail
            exact ret_held w.heap.size (six 0 false 0 ⟨#[]⟩) Tryz.results23 rfl rfl DD.out HU.out (six_size _ _ _ _) (new_cells w (six 0 false 0 ⟨#[]⟩) 25) (ref_fin HX.out ⟨rfl, own_below _ _ _⟩)
          · have HX := Lib.hid (HO.out (by omega))
            have l1 : ¬ -(V : Int) < -922337203685477580 := by omega
            have l2 : (-(V : Int) == -922337203685477580) = true := by rw [beq_iff_eq]; omega
            clear HO
            go_wp2_with fail
            exact ret_held w.heap.size (six 0 false 0 ⟨#[]⟩) Tryz.results23 rfl rfl DD.out HU.out (six_size _ _ _ _) (new_cells w (six 0 false 0 ⟨#[]⟩) 25) (ref_fin HX.out ⟨rfl, own_below _ _ _⟩)
          · have l1 : ¬ -(V : Int) < -922337203685477580 := by omega
            have l2 : (-(V : Int) == -922337203685477580) = true := by rw [beq_iff_eq]; omega
            clear HO
            go_wp2_with fail
            go_round
            case rel => exact ⟨k + 1, V * 10 + (D[k].toNat - 48), by omega, by omega, by go_num, by go_num, HV2.out⟩
            case measure => simp [intOf]; omega
          · have l1 : ¬ -(V : Int) < -922337203685477580 := by omega
            have l2 : (-(V : Int) == -922337203685477580) = false := by rw [beq_eq_false_iff_ne]; omega
            clear HO
            go_wp2_with fail
            go_round
            case rel => exact ⟨k + 1, V * 10 + (D[k].toNat - 48), by omega, by omega, by go_num, by go_num, HV2.out⟩
            case measure => simp [intOf]; omega
        · have HVV : Hid (valL 0 D.data.toList = V) := by
            have := HV.out
            rw [List.take_of_length_le (by rw [← Lib.size_eq]; omega)] at this
            exact this
          have hne : ¬ (D.data.toList = [] ∨ D.data.toList.all digitB = false) := by
            rw [HD.out]
            rintro (h | h)
            · rw [Lib.size_eq, h] at h0; exact absurd h0 (by simp)
            · cases h
          have HX : Hid (refL true D.data.toList s = (six 2 false (-(V : Int)) ⟨#[]⟩, 0)) := by
            show _ = _
            rw [refL, if_neg hne, HVV.out, if_neg (by omega), if_pos rfl]
          clear hne
          go_wp2_with fail
          exact ret_held w.heap.size (six 2 false (-(V : Int)) ⟨#[]⟩) Tryz.results23 rfl rfl DD.out HU.out (six_size _ _ _ _) (new_cells w (six 2 false (-(V : Int)) ⟨#[]⟩) 25) (ref_fin HX.out ⟨rfl, own_below _ _ _⟩)

end Go.Proofs.YtlniokpekcoodaaGreatDoor
