/-
  Package trim's length and comment.
-/
import Derived.Test.YtomdkmhaohcofaaDoorVals
import Derived.Test.YtomdkmhaohcofaaDoorTrimP
import Derived.Test.YtomdkmhaohcofaaDoorShelf
import Derived.Shelf.Strings.SlTrimAscii
set_option linter.unusedVariables false
set_option linter.unusedSimpArgs false
namespace Go.Proofs.YtomdkmhaohcofaaDoor
open Go.RowKit

theorem ext_drop (s : ByteArray) (j : Nat) : (s.extract j s.size).data.toList = s.data.toList.drop j := by
  rw [Lib.extract_eq]
  show List.take _ _ = _
  exact List.take_of_length_le (by rw [List.length_drop, ← Lib.size_eq]; exact Nat.le_refl _)
theorem ext_take (s : ByteArray) (j : Nat) : (s.extract 0 j).data.toList = s.data.toList.take j := by
  rw [Lib.extract_eq]
  simp

theorem byte_two (c : Nat) : (((c : Int) == 92) = true ∧ c = 92) ∨ (((c : Int) == 92) = false ∧ ((c : Int) == 34) = true ∧ c = 34) ∨ (((c : Int) == 92) = false ∧ ((c : Int) == 34) = false ∧ c ≠ 92 ∧ c ≠ 34) := by
  simp only [beq_iff_eq, beq_eq_false_iff_ne, ne_eq]
  omega

theorem drop_step (s : ByteArray) (j : Nat) (h : j < s.size) : s.data.toList.drop j = s[j] :: s.data.toList.drop (j + 1) := by
  have := List.drop_eq_getElem_cons (l := s.data.toList) (i := j) (by simpa using h)
  rw [this]
  simp [ByteArray.getElem_eq_getElem_data]

theorem noPrefix {b : UInt8} {l : List UInt8} (h : b ≠ 125) : Lib.hasPrefix (b :: l) [125, 125] = false := by
  unfold Lib.hasPrefix
  simp only [List.isPrefixOf]
  rw [show ((125 : UInt8) == b) = false from beq_eq_false_iff_ne.2 (Ne.symm h)]
  rfl
theorem lenG_skip {st i : Nat} {b : UInt8} {l : List UInt8} (h1 : st = 1) (h : b.toNat = 92) : lenG st i (b :: l) = lenG 1 (i + 2) (l.drop 1) := by
  have hb : b = 92 := UInt8.toNat_inj.1 h
  subst h1 hb
  cases l with
  | nil => rfl
  | cons c l =>
    rw [lenG, if_neg (by decide), if_pos (by decide), lenG, if_pos rfl]
    rfl
theorem lenG_quote {st i : Nat} {b : UInt8} {l : List UInt8} (h1 : st < 2) (h : b.toNat = 34) : lenG st i (b :: l) = lenG (1 - st) (i + 1) l := by
  have hb : b = 34 := UInt8.toNat_inj.1 h
  subst hb
  rw [lenG, if_neg (by omega), if_neg (by rintro ⟨_, h⟩; revert h; decide), if_pos rfl]
theorem lenG_other {st i : Nat} {b : UInt8} {l : List UInt8} (h1 : st < 2) (h2 : b.toNat ≠ 34) (h3 : st = 1 → b.toNat ≠ 92) (h4 : st = 0 → Lib.hasPrefix (b :: l) [125, 125] = false) : lenG st i (b :: l) = lenG st (i + 1) l := by
  rw [lenG, if_neg (by omega), if_neg (by rintro ⟨h, rfl⟩; exact h3 h rfl), if_neg (by rintro rfl; exact h2 rfl), if_neg (by rintro ⟨h, h'⟩; rw [h4 h] at h'; cases h')]
theorem lenG_here {st i : Nat} {b : UInt8} {l : List UInt8} (h1 : st = 0) (h2 : b.toNat ≠ 34) (h4 : Lib.hasPrefix (b :: l) [125, 125] = true) : lenG st i (b :: l) = i := by
  subst h1
  rw [lenG, if_neg (by decide), if_neg (by rintro ⟨h, _⟩; cases h), if_neg (by rintro rfl; exact h2 rfl), if_pos ⟨rfl, h4⟩]

set_option maxHeartbeats 1000000 in
theorem mlength_any (s : ByteArray) (hs : s.size ≤ 140737488355328) (w : World) :
    Calls Tryd.prog 20 #[.string s] w fun e w' => e = .returned (.int .i64 (lenG 0 0 s.data.toList)) ∧ w' = w := by
  go_enter Tryd.func20, Tryd.ntmps20
  go_wp2_with fail
  go_loop [3, 4] (fun vq vi => ∃ (j : Nat) (q : Bool), j ≤ s.size + 1 ∧ vi = .int .i64 j ∧ vq = .bool q ∧ Hid (lenG 0 0 s.data.toList = lenG q.toNat j (s.data.toList.drop j))) (fun _ vi => s.size + 1 - (intOf vi).toNat)
  case atStart => exact ⟨0, false, by omega, rfl, rfl, rfl⟩
  case round =>
    obtain ⟨j, q, hj, rfl, rfl, HB⟩ := hrel
    by_cases hjl : j < s.size
    · have hd := drop_step s j hjl
      have HD := Lib.hid hd
      clear hd
      rcases byte_two (s[j]).toNat with ⟨c1, n1⟩ | ⟨c1, c2, n2⟩ | ⟨c1, c2, n1, n2⟩
      · cases q
        · have HN : Hid (Lib.hasPrefix (s.data.toList.drop j) [125, 125] = false) := by
            show _ = _
            rw [HD.out]
            exact noPrefix (fun e => by rw [e] at n1; revert n1; decide)
          have hc2 : ((s[j].toNat : Int) == 34) = false := by rw [beq_eq_false_iff_ne]; omega
          have N1 := Lib.hid n1
          clear n1
          go_wp2_with (go_at_call 32; refine (Tryd.strings_HasPrefix _ _ _).mono ?_; rintro e w1 ⟨he, rfl⟩; rw [ext_drop, HN.out] at he; subst he)
          go_round
          case rel => exact ⟨j + 1, false, by omega, by go_num, rfl, by
            show _ = _
            rw [HB.out, HD.out]
            exact lenG_other (by decide) (by have := N1.out; omega) (fun h => by cases h) (fun _ => by rw [← HD.out]; exact HN.out)⟩
          case measure => simp [intOf]; omega
        · have N1 := Lib.hid n1
          clear n1
          go_wp2_with fail
          go_round
          case rel => exact ⟨j + 2, true, by omega, by go_num, rfl, by
            show _ = _
            rw [HB.out, HD.out]
            refine (lenG_skip rfl N1.out).trans ?_
            rw [List.drop_drop]
            rfl⟩
          case measure => simp [intOf]; omega
      · have N2 := Lib.hid n2
        clear n2
        cases q
        all_goals
          go_wp2_with fail
          go_round
          case rel => exact ⟨j + 1, _, by omega, by go_num, rfl, by
            show _ = _
            rw [HB.out, HD.out]
            exact lenG_quote (by decide) N2.out⟩
          case measure => simp [intOf]; omega
      · have N1 := Lib.hid n1
        have N2 := Lib.hid n2
        clear n1 n2
        cases q
        · cases hp : Lib.hasPrefix (s.data.toList.drop j) [125, 125] with
          | false =>
            have HN := Lib.hid hp
            clear hp
            go_wp2_with (go_at_call 32; refine (Tryd.strings_HasPrefix _ _ _).mono ?_; rintro e w1 ⟨he, rfl⟩; rw [ext_drop, HN.out] at he; subst he)
            go_round
            case rel => exact ⟨j + 1, false, by omega, by go_num, rfl, by
              show _ = _
              rw [HB.out, HD.out]
              exact lenG_other (by decide) N2.out (fun h => by cases h) (fun _ => by rw [← HD.out]; exact HN.out)⟩
            case measure => simp [intOf]; omega
          | true =>
            have HN := Lib.hid hp
            clear hp
            go_wp2_with (go_at_call 32; refine (Tryd.strings_HasPrefix _ _ _).mono ?_; rintro e w1 ⟨he, rfl⟩; rw [ext_drop, HN.out] at he; subst he)
            go_ret
            refine ⟨ret_int ?_, rfl⟩
            rw [HB.out, HD.out]
            exact (lenG_here rfl N2.out (by rw [← HD.out]; exact HN.out)).symm
        · go_wp2_with fail
          go_round
          case rel => exact ⟨j + 1, true, by omega, by go_num, rfl, by
            show _ = _
            rw [HB.out, HD.out]
            exact lenG_other (by decide) N2.out (fun _ => N1.out) (fun h => by cases h)⟩
          case measure => simp [intOf]; omega
    · have hd : s.data.toList.drop j = [] := List.drop_eq_nil_of_le (by rw [← Lib.size_eq]; omega)
      have HD := Lib.hid hd
      clear hd
      go_wp2_with fail
      go_ret
      refine ⟨ret_int ?_, rfl⟩
      rw [HB.out, HD.out]
      rfl

end Go.Proofs.YtomdkmhaohcofaaDoor
