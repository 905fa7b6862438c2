/-
  TrimEnds: the law's contract.
-/
import Derived.Test.YtomdkmhaohcofaaDoorTrimLaw
set_option linter.unusedVariables false
set_option linter.unusedSimpArgs false
namespace Go.Proofs.YtomdkmhaohcofaaDoor
open Go.RowKit

theorem no2_append {l : List UInt8} (h : No2 l 123 123) : No2 (l ++ [125, 125]) 123 123 := fun j ⟨h1, h2⟩ => by
  by_cases hj : j + 1 < l.length
  · rw [List.getElem?_append_left (by omega)] at h1
    rw [List.getElem?_append_left hj] at h2
    exact h j ⟨h1, h2⟩
  · rw [List.getElem?_append_right (by omega)] at h2
    have h3 := List.mem_of_getElem? h2
    simp at h3

theorem ends_open {l t : List UInt8} (h : No2 l 123 123) (he : Lib.hasSuffix l [123] = false) (ht : No2 t 125 125) : splitT (l ++ 123 :: 123 :: t) 0 false = none :=
  split_open (cut_first h (fun j hj e => absurd e (noEnd he j hj))) (by rw [lenG_none t 0 0 ht]; decide)

set_option maxRecDepth 100000 in
set_option maxHeartbeats 1000000 in
theorem trimEnds_any (s t : ByteArray) (hs47 : s.size ≤ 140737488355328) (ht47 : t.size ≤ 140737488355328) (m : Int) (w : World) (hm : w.cell? ⟨0, 0, none⟩ = some (.int .i64 m)) (h0 : 0 < w.heap.size) :
    Calls Tryd.prog 7 #[.string s, .string t] w fun e w' => e = .returned (.bool true) ∧ Below w.heap.size w w' := by
  have HM := Lib.hid hm
  clear hm
  by_cases hsz : s.size + t.size ≤ 600
  · cases hp : Lib.contains s.data.toList [123, 123] with
    | true =>
      have HP := Lib.hid hp
      clear hp
      go_enter Tryd.func7, Tryd.ntmps7
      go_wp2_with (first
        | (go_at_call 8; refine (mPlain_any _ (by omega) m _ HM.out).mono ?_; rintro e w1 ⟨he, rfl⟩; rw [HP.out] at he; subst he)
        | (go_at_call 10; refine (law6awake_any m _ HM.out h0).mono ?_; rintro e w1 ⟨rfl, hb⟩))
      go_ret
      exact ⟨rfl, hb⟩
    | false =>
      have HP := Lib.hid hp
      clear hp
      cases hq : Lib.hasSuffix s.data.toList [123] with
      | true =>
        have HQ := Lib.hid hq
        clear hq
        go_enter Tryd.func7, Tryd.ntmps7
        go_wp2_with (first
          | (go_at_call 8; refine (mPlain_any _ (by omega) m _ HM.out).mono ?_; rintro e w1 ⟨he, rfl⟩; rw [HP.out] at he; subst he)
          | (go_at_call 9; refine (Tryd.strings_HasSuffix _ _ _ (by omega)).mono ?_; rintro e w1 ⟨he, rfl⟩; rw [HQ.out] at he; subst he)
          | (go_at_call 10; refine (law6awake_any m _ HM.out h0).mono ?_; rintro e w1 ⟨rfl, hb⟩))
        go_ret
        exact ⟨rfl, hb⟩
      | false =>
        have HQ := Lib.hid hq
        clear hq
        cases ht : Lib.contains t.data.toList [125, 125] with
        | true =>
          have HT := Lib.hid ht
          clear ht
          go_enter Tryd.func7, Tryd.ntmps7
          go_wp2_with (first
            | (go_at_call 8; refine (mPlain_any _ (by omega) m _ HM.out).mono ?_; rintro e w1 ⟨he, rfl⟩; rw [HP.out] at he; subst he)
            | (go_at_call 9; refine (Tryd.strings_HasSuffix _ _ _ (by omega)).mono ?_; rintro e w1 ⟨he, rfl⟩; rw [HQ.out] at he; subst he)
            | (go_at_call 15; refine (Tryd.strings_Contains _ _ m _ (by omega) HM.out).mono ?_; rintro e w1 ⟨he, rfl⟩; rw [HT.out] at he; subst he)
            | (go_at_call 10; refine (law6awake_any m _ HM.out h0).mono ?_; rintro e w1 ⟨rfl, hb⟩))
          go_ret
          exact ⟨rfl, hb⟩
        | false =>
          have HT := Lib.hid ht
          clear ht
          have hq1 : Hid (splitT (s ++ ⟨#[123, 123]⟩ ++ t : ByteArray).data.toList 0 false = none) := by
            show _ = _
            rw [← ends_open (no2_of HP.out) HQ.out (no2_of HT.out)]
            congr 1
            simp [ByteArray.data_append]
          have hq2 : Hid (splitT (s ++ ⟨#[125, 125]⟩ : ByteArray).data.toList 0 false = some [⟨false, (s ++ ⟨#[125, 125]⟩ : ByteArray).data.toList, 0⟩]) := by
            show _ = _
            have e : (s ++ ⟨#[125, 125]⟩ : ByteArray).data.toList = s.data.toList ++ [125, 125] := by simp [ByteArray.data_append]
            rw [e, plain_one (no2_append (no2_of HP.out)) 0, oneT, if_neg (by simp)]
          have hz1 : (s ++ ⟨#[123, 123]⟩ ++ t : ByteArray).size ≤ 65536 := by
            have e1 : (⟨#[123, 123]⟩ : ByteArray).size = 2 := rfl
            simp only [ByteArray.size_append]
            omega
          have hz2 : (s ++ ⟨#[125, 125]⟩ : ByteArray).size ≤ 65536 := by
            have e1 : (⟨#[125, 125]⟩ : ByteArray).size = 2 := rfl
            simp only [ByteArray.size_append]
            omega
          go_enter Tryd.func7, Tryd.ntmps7
          go_wp2_with (first
            | (go_at_call 8; refine (mPlain_any _ (by omega) m _ HM.out).mono ?_; rintro e w1 ⟨he, rfl⟩; rw [HP.out] at he; subst he)
            | (go_at_call 9; refine (Tryd.strings_HasSuffix _ _ _ (by omega)).mono ?_; rintro e w1 ⟨he, rfl⟩; rw [HQ.out] at he; subst he)
            | (go_at_call 15; refine (Tryd.strings_Contains _ _ m _ (by omega) HM.out).mono ?_; rintro e w1 ⟨he, rfl⟩; rw [HT.out] at he; subst he)
            | ((with_reducible refine (msplit_no _ hq1.out hz1 m _ HM.out h0).mono ?_); rintro e w2 ⟨he, hb⟩
               subst he
               have HB2 := Lib.hid hb
               have HM2 : Hid (w2.cell? ⟨0, 0, none⟩ = some (.int .i64 m)) := (hb.cell (p := ⟨0, 0, none⟩) h0).trans HM.out
               have h02 : 0 < w2.heap.size := Nat.lt_of_lt_of_le h0 hb.size
               clear hb)
            | ((with_reducible refine (msplit_to _ _ hq2.out hz2 m _ HM2.out h02).mono ?_); rintro e w3 ⟨v3, he, hb, ho⟩
               obtain ⟨g3, c3, hv3, hg3, hx3⟩ := own_later ho
               subst hv3 he
               have HC3 := Lib.hid hx3
               clear hx3
               have HB3 := Lib.hid hb
               have HM3 : Hid (w3.cell? ⟨0, 0, none⟩ = some (.int .i64 m)) := (hb.cell (p := ⟨0, 0, none⟩) h02).trans HM2.out
               have h03 : 0 < w3.heap.size := Nat.lt_of_lt_of_le h02 hb.size
               clear hb ho)
            | (go_at_call 10; refine (law6awake_any m _ HM3.out h03).mono ?_; rintro e w4 ⟨rfl, hb⟩
               have HB4 := Lib.hid hb
               have l0 := HC3.out w4 hb 0 _ rfl
               have l1 : w4.cell? ⟨g3, 1, none⟩ = some (.string (s ++ ⟨#[125, 125]⟩)) := HC3.out w4 hb 1 _ rfl
               clear hb))
          go_ret
          exact ⟨rfl, HB2.out.trans ((HB3.out.trans (HB4.out.mono HB3.out.size)).mono HB2.out.size)⟩
  · go_enter Tryd.func7, Tryd.ntmps7
    go_wp2_with (first
      | (go_at_call 10; refine (law6awake_any m _ HM.out h0).mono ?_; rintro e w1 ⟨rfl, hb⟩))
    go_ret
    exact ⟨rfl, hb⟩

end Go.Proofs.YtomdkmhaohcofaaDoor
