/-
  TrimPlain: the law's contract.
-/
import Derived.Test.YtomdkmhaohcofaaDoorTrimLaw
set_option linter.unusedVariables false
set_option linter.unusedSimpArgs false
namespace Go.Proofs.YtomdkmhaohcofaaDoor
open Go.RowKit

theorem plain_two {l : List UInt8} (h : No2 l 123 123) (he : Lib.hasSuffix l [123] = false) :
    splitT (123 :: 123 :: 97 :: 125 :: 125 :: (l ++ [123, 123, 32, 98, 32, 125, 125])) 0 false = some (⟨true, [97], 0⟩ :: (oneT ⟨false, l, 5⟩ ++ [⟨true, [98], 5 + l.length⟩])) := by
  have h1 : Lib.cut (123 :: 123 :: 97 :: 125 :: 125 :: (l ++ [123, 123, 32, 98, 32, 125, 125])) [123, 123] = ([], 97 :: 125 :: 125 :: (l ++ [123, 123, 32, 98, 32, 125, 125]), true) :=
    cut_first (s := []) (fun j hj => by simp at hj) (fun j hj => by simp at hj)
  have h2 : lenG 0 0 (97 :: 125 :: 125 :: (l ++ [123, 123, 32, 98, 32, 125, 125])) = (1 : Nat) := lenG_plain [97] _ 0 (by decide)
  rw [split_more h1 h2]
  have h3 : Lib.cut (l ++ [123, 123, 32, 98, 32, 125, 125]) [123, 123] = (l, [32, 98, 32, 125, 125], true) :=
    cut_first h (fun j hj e => absurd e (noEnd he j hj))
  have h4 : lenG 0 0 [32, 98, 32, 125, 125] = (3 : Nat) := by decide
  have e1 : readA (List.take 1 (97 :: 125 :: 125 :: (l ++ [123, 123, 32, 98, 32, 125, 125]))) = ([97], false, false) := (by decide : readA [97] = ([97], false, false))
  have e2 : List.drop (1 + 2) (97 :: 125 :: 125 :: (l ++ [123, 123, 32, 98, 32, 125, 125])) = l ++ [123, 123, 32, 98, 32, 125, 125] := rfl
  rw [e1, e2]
  simp only
  rw [split_more h3 h4]
  have e3 : readA (List.take 3 [32, 98, 32, 125, 125]) = ([98], false, false) := by decide
  have e4 : List.drop (3 + 2) [(32 : UInt8), 98, 32, 125, 125] = [] := rfl
  rw [e3, e4]
  simp only
  rw [split_last (text := []) (rest := []) (by decide)]
  simp only [left_ff, Option.map_some]
  have o1 : ∀ n, oneT ⟨false, [], n⟩ = [] := fun n => rfl
  have o2 : ∀ n, actT [97] n = [⟨true, [97], n⟩] := fun n => rfl
  have o3 : ∀ n, actT [98] n = [⟨true, [98], n⟩] := fun n => rfl
  rw [o1, o1, o2, o3]
  simp

set_option maxRecDepth 100000 in
set_option maxHeartbeats 1000000 in
theorem trimPlain_any (s : ByteArray) (m : Int) (w : World) (hm : w.cell? ⟨0, 0, none⟩ = some (.int .i64 m)) (h0 : 0 < w.heap.size) :
    Calls Tryd.prog 3 #[.string s] w fun e w' => e = .returned (.bool true) ∧ Below w.heap.size w w' := by
  have HM := Lib.hid hm
  clear hm
  by_cases hs : s.size ≤ 1000
  · cases hp : Lib.contains s.data.toList [123, 123] with
    | true =>
      have HP := Lib.hid hp
      clear hp
      go_enter Tryd.func3, Tryd.ntmps3
      go_wp2_with (first
        | (go_at_call 8; refine (mPlain_any _ (by omega) m _ HM.out).mono ?_; rintro e w1 ⟨he, rfl⟩; rw [HP.out] at he; subst he)
        | (go_at_call 10; refine (law6awake_any m _ HM.out h0).mono ?_; rintro e w1 ⟨rfl, hb⟩))
      go_ret
      exact ⟨rfl, hb⟩
    | false =>
      have HP := Lib.hid hp
      clear hp
      cases hq : Lib.hasSuffix s.data.toList [123] with
      | true =>
        have HQ := Lib.hid hq
        clear hq
        go_enter Tryd.func3, Tryd.ntmps3
        go_wp2_with (first
          | (go_at_call 8; refine (mPlain_any _ (by omega) m _ HM.out).mono ?_; rintro e w1 ⟨he, rfl⟩; rw [HP.out] at he; subst he)
          | (go_at_call 9; refine (Tryd.strings_HasSuffix _ _ _ (by omega)).mono ?_; rintro e w1 ⟨he, rfl⟩; rw [HQ.out] at he; subst he)
          | (go_at_call 10; refine (law6awake_any m _ HM.out h0).mono ?_; rintro e w1 ⟨rfl, hb⟩))
        go_ret
        exact ⟨rfl, hb⟩
      | false =>
        have HQ := Lib.hid hq
        clear hq
        have hsp1 : Hid (splitT s.data.toList 0 false = some (oneT ⟨false, s.data.toList, 0⟩)) := plain_one (no2_of HP.out) 0
        have hsp2 : Hid (splitT (⟨#[123, 123, 97, 125, 125]⟩ ++ s ++ ⟨#[123, 123, 32, 98, 32, 125, 125]⟩ : ByteArray).data.toList 0 false = some (⟨true, [97], 0⟩ :: (oneT ⟨false, s.data.toList, 5⟩ ++ [⟨true, [98], 5 + s.data.toList.length⟩]))) := by
          show _ = _
          rw [← plain_two (no2_of HP.out) HQ.out]
          congr 1
        have hz2 : (⟨#[123, 123, 97, 125, 125]⟩ ++ s ++ ⟨#[123, 123, 32, 98, 32, 125, 125]⟩ : ByteArray).size ≤ 65536 := by
          simp [ByteArray.size_append]
          have e1 : (⟨#[123, 123, 97, 125, 125]⟩ : ByteArray).size = 5 := rfl
          have e2 : (⟨#[123, 123, 32, 98, 32, 125, 125]⟩ : ByteArray).size = 7 := rfl
          omega
        by_cases hse : s = ⟨#[]⟩
        · subst hse
          have hq1 : Hid (splitT (⟨#[]⟩ : ByteArray).data.toList 0 false = some []) := hsp1.out
          have hq2 : Hid (splitT (⟨#[123, 123, 97, 125, 125]⟩ ++ ⟨#[]⟩ ++ ⟨#[123, 123, 32, 98, 32, 125, 125]⟩ : ByteArray).data.toList 0 false = some [⟨true, [97], 0⟩, ⟨true, [98], 5⟩]) := hsp2.out
          clear hsp1 hsp2
          go_enter Tryd.func3, Tryd.ntmps3
          go_wp2_with (first
            | (go_at_call 8; refine (mPlain_any _ (by omega) m _ HM.out).mono ?_; rintro e w1 ⟨he, rfl⟩; rw [HP.out] at he; subst he)
            | (go_at_call 9; refine (Tryd.strings_HasSuffix _ _ _ (by omega)).mono ?_; rintro e w1 ⟨he, rfl⟩; rw [HQ.out] at he; subst he)
            | ((with_reducible refine (msplit_to ⟨#[]⟩ _ hq1.out (by decide) m _ HM.out h0).mono ?_); rintro e w2 ⟨v2, he, hb, ho⟩
               obtain ⟨al2, c2, hv2⟩ := row_form ho
               subst hv2 he
               have HB2 := Lib.hid hb
               have HO2 := Lib.hid ho
               have HM2 : Hid (w2.cell? ⟨0, 0, none⟩ = some (.int .i64 m)) := (hb.cell (p := ⟨0, 0, none⟩) h0).trans HM.out
               have h02 : 0 < w2.heap.size := Nat.lt_of_lt_of_le h0 hb.size
               clear hb ho)
            | ((with_reducible refine (msplit_to _ _ hq2.out hz2 m _ HM2.out h02).mono ?_); rintro e w3 ⟨v3, he, hb, ho⟩
               obtain ⟨al3, c3, hv3⟩ := row_form ho
               subst hv3 he
               have HB3 := Lib.hid hb
               have HO3 := Lib.hid ho
               have HM3 : Hid (w3.cell? ⟨0, 0, none⟩ = some (.int .i64 m)) := (hb.cell (p := ⟨0, 0, none⟩) h02).trans HM2.out
               have h03 : 0 < w3.heap.size := Nat.lt_of_lt_of_le h02 hb.size
               clear hb ho)
            | (go_at_call 10; refine (law6awake_any m _ HM3.out h03).mono ?_; rintro e w4 ⟨rfl, hb⟩
               have HB4 := Lib.hid hb
               clear hb))
          go_ret
          exact ⟨rfl, HB2.out.trans ((HB3.out.trans (HB4.out.mono HB3.out.size)).mono HB2.out.size)⟩
        · have hnl : s.data.toList ≠ [] := fun e => hse (by rw [← Lib.mk_data s, e])
          have hne : (s.toList == []) = false := by
            have := str_ne hse
            rw [Lib.toList_data ⟨#[]⟩] at this
            exact this
          have hne2 : s.toList.isEmpty = false := by
            cases hx : s.toList with
            | nil => rw [hx] at hne; cases hne
            | cons _ _ => rfl
          have hone : ∀ n, oneT ⟨false, s.data.toList, n⟩ = [⟨false, s.data.toList, n⟩] := fun n => by rw [oneT, if_neg hnl]
          have hq1 : Hid (splitT s.data.toList 0 false = some [⟨false, s.data.toList, 0⟩]) := by
            rw [hone] at hsp1
            exact hsp1
          have hq2 : Hid (splitT (⟨#[123, 123, 97, 125, 125]⟩ ++ s ++ ⟨#[123, 123, 32, 98, 32, 125, 125]⟩ : ByteArray).data.toList 0 false = some [⟨true, [97], 0⟩, ⟨false, s.data.toList, 5⟩, ⟨true, [98], 5 + s.data.toList.length⟩]) := by
            rw [hone] at hsp2
            exact hsp2
          clear hsp1 hsp2 hone hnl
          go_enter Tryd.func3, Tryd.ntmps3
          go_wp2_with (first
            | (go_at_call 8; refine (mPlain_any _ (by omega) m _ HM.out).mono ?_; rintro e w1 ⟨he, rfl⟩; rw [HP.out] at he; subst he)
            | (go_at_call 9; refine (Tryd.strings_HasSuffix _ _ _ (by omega)).mono ?_; rintro e w1 ⟨he, rfl⟩; rw [HQ.out] at he; subst he)
            | (go_at_call 11; (
               (with_reducible refine (msplit_to s _ hq1.out (by omega) m _ HM.out h0).mono ?_)
               rintro e w2 ⟨v2, he, hb, ho⟩
               obtain ⟨g2, c2, hv2, hg2, hx2⟩ := own_later ho
               subst hv2 he
               have HC2 := Lib.hid hx2
               clear hx2
               have HB2 := Lib.hid hb
               have HO2 := Lib.hid ho
               have HM2 : Hid (w2.cell? ⟨0, 0, none⟩ = some (.int .i64 m)) := (hb.cell (p := ⟨0, 0, none⟩) h0).trans HM.out
               have h02 : 0 < w2.heap.size := Nat.lt_of_lt_of_le h0 hb.size
               clear hb ho))
            | ((with_reducible refine (msplit_to _ _ hq2.out hz2 m _ HM2.out h02).mono ?_); rintro e w3 ⟨v3, he, hb, ho⟩
               obtain ⟨g3, c3, hv3, hg3, hx3⟩ := own_later ho
               subst hv3 he
               have HC3 := Lib.hid hx3
               clear hx3
               have HB3 := Lib.hid hb
               have HO3 := Lib.hid ho
               have HM3 : Hid (w3.cell? ⟨0, 0, none⟩ = some (.int .i64 m)) := (hb.cell (p := ⟨0, 0, none⟩) h02).trans HM2.out
               have h03 : 0 < w3.heap.size := Nat.lt_of_lt_of_le h02 hb.size
               clear hb ho)
            | (go_at_call 10; refine (law6awake_any m _ HM3.out h03).mono ?_; rintro e w4 ⟨rfl, hb⟩
               have HB4 := Lib.hid hb
               have k0 := HC2.out w4 (HB3.out.trans (hb.mono HB3.out.size)) 0 _ rfl
               have k1 := HC2.out w4 (HB3.out.trans (hb.mono HB3.out.size)) 1 _ rfl
               have k2 := HC2.out w4 (HB3.out.trans (hb.mono HB3.out.size)) 2 _ rfl
               have l3 := HC3.out w4 hb 3 _ rfl
               have l4 := HC3.out w4 hb 4 _ rfl
               have l5 := HC3.out w4 hb 5 _ rfl
               have l7 := HC3.out w4 hb 7 _ rfl
               clear hb))
          go_ret
          exact ⟨rfl, HB2.out.trans ((HB3.out.trans (HB4.out.mono HB3.out.size)).mono HB2.out.size)⟩
  · go_enter Tryd.func3, Tryd.ntmps3
    go_wp2_with (first
        | (go_at_call 10; refine (law6awake_any m _ HM.out h0).mono ?_; rintro e w1 ⟨rfl, hb⟩))
    go_ret
    exact ⟨rfl, hb⟩

end Go.Proofs.YtomdkmhaohcofaaDoor
