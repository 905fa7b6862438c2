/-
  TrimQuotes: the law's contract.
-/
import Derived.Test.YtomdkmhaohcofaaDoorTrimLaw
import Derived.Test.YtomdkmhaohcofaaDoorQuote
set_option linter.unusedVariables false
set_option linter.unusedSimpArgs false
namespace Go.Proofs.YtomdkmhaohcofaaDoor
open Go.RowKit

def printL (q : List UInt8) : List UInt8 := 112 :: 114 :: 105 :: 110 :: 116 :: 32 :: q

theorem dropW (p : UInt8 → Bool) (b : UInt8) (l : List UInt8) (h : p b = false) : List.dropWhile p (b :: l) = b :: l := by
  rw [List.dropWhile_cons, h]
  rfl

theorem readA_print (l : List UInt8) : readA (32 :: (printL (quoteL l) ++ [32])) = (printL (quoteL l), false, false) := by
  rw [readA_more (by simp [printL])]
  have h1 : Lib.hasPrefix (32 :: (printL (quoteL l) ++ [32])) [45, 32] = false := rfl
  have h2 : Lib.trimPrefix (32 :: (printL (quoteL l) ++ [32])) [45, 32] = 32 :: (printL (quoteL l) ++ [32]) := by
    unfold Lib.trimPrefix
    rw [h1]
    rfl
  have e : 32 :: (printL (quoteL l) ++ [32]) = (32 :: 112 :: 114 :: 105 :: 110 :: 116 :: 32 :: 34 :: l.flatMap escB) ++ [34, 32] := by simp [printL, quoteL]
  have h3 : Lib.hasSuffix (32 :: (printL (quoteL l) ++ [32])) [32, 45] = false := by
    rw [e]
    unfold Lib.hasSuffix List.isSuffixOf
    rw [List.reverse_append]
    rfl
  have h4 : Lib.trimSuffix (32 :: (printL (quoteL l) ++ [32])) [32, 45] = 32 :: (printL (quoteL l) ++ [32]) := by
    unfold Lib.trimSuffix
    rw [h3]
    rfl
  rw [h2, h1, h3, h4]
  have h5 : Lib.trimS (32 :: (printL (quoteL l) ++ [32])) [32, 9, 10] = printL (quoteL l) := by
    unfold Lib.trimS
    have h6 : Lib.trimRightS (32 :: (printL (quoteL l) ++ [32])) [32, 9, 10] = 32 :: printL (quoteL l) := by
      have e2 : 32 :: printL (quoteL l) = (32 :: 112 :: 114 :: 105 :: 110 :: 116 :: 32 :: 34 :: l.flatMap escB) ++ [34] := by simp [printL, quoteL]
      rw [e, e2]
      unfold Lib.trimRightS
      rw [List.reverse_append]
      show (List.dropWhile _ (32 :: 34 :: _)).reverse = _
      rw [List.dropWhile_cons, if_pos (by decide), dropW _ _ _ (by decide)]
      simp
    rw [h6]
    unfold Lib.trimLeftS
    rw [List.dropWhile_cons, if_pos (by decide)]
    unfold printL
    exact dropW _ _ _ (by decide)
  rw [h5]

theorem quotes_split {l t : List UInt8} (h : No2 t 123 123) :
    splitT (123 :: 123 :: 32 :: (printL (quoteL l) ++ 32 :: 125 :: 125 :: t)) 0 false = some (⟨true, printL (quoteL l), 0⟩ :: oneT ⟨false, t, 8 + (quoteL l).length + 4⟩) := by
  have h1 : Lib.cut (123 :: 123 :: 32 :: (printL (quoteL l) ++ 32 :: 125 :: 125 :: t)) [123, 123] = ([], 32 :: (printL (quoteL l) ++ 32 :: 125 :: 125 :: t), true) :=
    cut_first (s := []) (fun j hj => by simp at hj) (fun j hj => by simp at hj)
  have h2 : lenG 0 0 (32 :: (printL (quoteL l) ++ 32 :: 125 :: 125 :: t)) = (8 + (quoteL l).length : Nat) := by
    show lenG 0 0 ([32, 112, 114, 105, 110, 116, 32] ++ (quoteL l ++ ([32] ++ 125 :: 125 :: t))) = _
    rw [lenG_pass _ _ _ (by decide), lenG_quoted, lenG_plain [32] t _ (by decide)]
    simp
    omega
  rw [split_more h1 h2]
  have e0 : 32 :: (printL (quoteL l) ++ 32 :: 125 :: 125 :: t) = (32 :: (printL (quoteL l) ++ [32])) ++ 125 :: 125 :: t := by simp
  have el : (32 :: (printL (quoteL l) ++ [32])).length = 8 + (quoteL l).length := by simp [printL]; omega
  have e1 : List.take (8 + (quoteL l).length) (32 :: (printL (quoteL l) ++ 32 :: 125 :: 125 :: t)) = 32 :: (printL (quoteL l) ++ [32]) := by
    rw [e0, ← el, List.take_left']
    rfl
  have e2 : List.drop (8 + (quoteL l).length + 2) (32 :: (printL (quoteL l) ++ 32 :: 125 :: 125 :: t)) = t := by
    rw [e0, ← el, List.drop_append]
    simp
  rw [e1, e2, readA_print]
  simp only
  rw [split_last (cut_none h), left_ff]
  have o1 : oneT ⟨false, [], 0⟩ = [] := rfl
  have o2 : actT (printL (quoteL l)) (0 + ([] : List UInt8).length) = [⟨true, printL (quoteL l), 0⟩] := by
    unfold actT
    rw [if_neg (by simp [commentA, printL, Lib.hasPrefix])]
    rfl
  rw [o1, o2, left_ff]
  simp
  congr 2
  omega

set_option maxRecDepth 100000 in
set_option maxHeartbeats 1000000 in
theorem trimQuotes_any (s t : ByteArray) (hs47 : s.size ≤ 140737488355328) (ht47 : t.size ≤ 140737488355328) (m : Int) (w : World) (hm : w.cell? ⟨0, 0, none⟩ = some (.int .i64 m)) (h0 : 0 < w.heap.size) :
    Calls Tryd.prog 6 #[.string s, .string t] w fun e w' => e = .returned (.bool true) ∧ Below w.heap.size w w' := by
  have HM := Lib.hid hm
  clear hm
  by_cases hsz : s.size ≤ 300
  · by_cases hsz2 : t.size ≤ 300
    · cases ht : Lib.contains t.data.toList [123, 123] with
      | true =>
        have HT := Lib.hid ht
        clear ht
        go_enter Tryd.func6, Tryd.ntmps6
        go_wp2_with (first
          | (go_at_call 8; refine (mPlain_any _ (by omega) m _ HM.out).mono ?_; rintro e w1 ⟨he, rfl⟩; rw [HT.out] at he; subst he)
          | (go_at_call 10; refine (law6awake_any m _ HM.out h0).mono ?_; rintro e w1 ⟨rfl, hb⟩))
        go_ret
        exact ⟨rfl, hb⟩
      | false =>
        have HT := Lib.hid ht
        clear ht
        obtain ⟨q, hq⟩ : ∃ q : ByteArray, (⟨(quoteL s.data.toList).toArray⟩ : ByteArray) = q := ⟨_, rfl⟩
        have hqz : q.size ≤ 602 := by
          rw [← hq, Lib.size_eq]
          have := esc_len s.data.toList
          rw [Lib.size_eq] at hsz
          simp only [quoteL, List.length_cons, List.length_append, List.length_nil]
          omega
        have HQ := Lib.hid hq
        have HQ2 : Hid (q.data.toList = quoteL s.data.toList) := by show _ = _; rw [← hq]
        have HP1 : Hid (some (Value.string ⟨(printL (quoteL s.data.toList)).toArray⟩) = some (.string (⟨#[112, 114, 105, 110, 116, 32]⟩ ++ q))) := by
          show _ = _
          rw [← hq]
          rw [show (⟨(printL (quoteL s.data.toList)).toArray⟩ : ByteArray) = ⟨#[112, 114, 105, 110, 116, 32]⟩ ++ ⟨(quoteL s.data.toList).toArray⟩ from (app_mk [112, 114, 105, 110, 116, 32] _).symm]
        clear hq
        have z1 : (⟨#[123, 123, 32, 112, 114, 105, 110, 116, 32]⟩ : ByteArray).size = 9 := rfl
        have z2 : (⟨#[32, 125, 125]⟩ : ByteArray).size = 3 := rfl
        have z3 : (⟨#[112, 114, 105, 110, 116, 32]⟩ : ByteArray).size = 6 := rfl
        have hz1 : (⟨#[123, 123, 32, 112, 114, 105, 110, 116, 32]⟩ ++ q : ByteArray).size ≤ 611 := by simp only [ByteArray.size_append]; omega
        have hz2 : (⟨#[123, 123, 32, 112, 114, 105, 110, 116, 32]⟩ ++ q ++ ⟨#[32, 125, 125]⟩ : ByteArray).size ≤ 614 := by simp only [ByteArray.size_append]; omega
        have hqs0 := Lib.hid (quotes_split (l := s.data.toList) (no2_of HT.out))
        by_cases hte : t = ⟨#[]⟩
        · subst hte
          have hqs : Hid (splitT (123 :: 123 :: 32 :: (printL (quoteL s.data.toList) ++ 32 :: 125 :: 125 :: (⟨#[]⟩ : ByteArray).data.toList)) 0 false = some [⟨true, printL (quoteL s.data.toList), 0⟩]) := hqs0.out
          clear hqs0
          have hq1 : Hid (splitT (⟨#[123, 123, 32, 112, 114, 105, 110, 116, 32]⟩ ++ q ++ ⟨#[32, 125, 125]⟩ ++ ⟨#[]⟩ : ByteArray).data.toList 0 false = some [⟨true, printL (quoteL s.data.toList), 0⟩]) := by
            show _ = _
            rw [← hqs.out]
            congr 1
            rw [← HQ2.out]
            simp [ByteArray.data_append, printL]
          clear hqs
          go_enter Tryd.func6, Tryd.ntmps6
          go_wp2_with (first
            | (go_at_call 8; refine (mPlain_any _ (by omega) m _ HM.out).mono ?_; rintro e w1 ⟨he, rfl⟩; rw [HT.out] at he; subst he)
            | (go_at_call 14; refine (r4Quote_any _ (by omega) _).mono ?_; rintro e w1 ⟨he, rfl⟩; rw [HQ.out] at he; subst he)
            | (go_at_call 11; refine (msplit_to _ _ hq1.out (by simp only [ByteArray.size_append]; omega) m _ HM.out h0).mono ?_; rintro e w2 ⟨v2, he, hb, ho⟩
               obtain ⟨g2, c2, hv2, hg2, hx2⟩ := own_later ho
               subst hv2 he
               have HC2 := Lib.hid hx2
               have HB2 := Lib.hid hb
               have HM2 : Hid (w2.cell? ⟨0, 0, none⟩ = some (.int .i64 m)) := (hb.cell (p := ⟨0, 0, none⟩) h0).trans HM.out
               have h02 : 0 < w2.heap.size := Nat.lt_of_lt_of_le h0 hb.size
               have k0 := hx2 w2 (Below.refl _ _) 0 _ rfl
               have k1 : w2.cell? ⟨g2, 1, none⟩ = some (.string (⟨#[112, 114, 105, 110, 116, 32]⟩ ++ q)) := (hx2 w2 (Below.refl _ _) 1 _ rfl).trans HP1.out
               have k2 := hx2 w2 (Below.refl _ _) 2 _ rfl
               clear hb ho hx2)
            | (go_at_call 10; refine (law6awake_any m _ HM2.out h02).mono ?_; rintro e w4 ⟨rfl, hb⟩
               have HB4 := Lib.hid hb
               skip
               clear hb k0 k1 k2))
          go_ret
          exact ⟨rfl, HB2.out.trans (HB4.out.mono HB2.out.size)⟩
        · have hnl : t.data.toList ≠ [] := fun e => hte (by rw [← Lib.mk_data t, e])
          have hne : (t.toList == []) = false := by
            have := str_ne hte
            rw [Lib.toList_data ⟨#[]⟩] at this
            exact this
          have hne2 : t.toList.isEmpty = false := by
            cases hx : t.toList with
            | nil => rw [hx] at hne; cases hne
            | cons _ _ => rfl
          have hqs : Hid (splitT (123 :: 123 :: 32 :: (printL (quoteL s.data.toList) ++ 32 :: 125 :: 125 :: t.data.toList)) 0 false = some [⟨true, printL (quoteL s.data.toList), 0⟩, ⟨false, t.data.toList, 8 + (quoteL s.data.toList).length + 4⟩]) := by
            have := hqs0.out
            rw [oneT, if_neg hnl] at this
            exact this
          clear hqs0 hnl
          have hq1 : Hid (splitT (⟨#[123, 123, 32, 112, 114, 105, 110, 116, 32]⟩ ++ q ++ ⟨#[32, 125, 125]⟩ ++ t : ByteArray).data.toList 0 false = some [⟨true, printL (quoteL s.data.toList), 0⟩, ⟨false, t.data.toList, 8 + (quoteL s.data.toList).length + 4⟩]) := by
            show _ = _
            rw [← hqs.out]
            congr 1
            rw [← HQ2.out]
            simp [ByteArray.data_append, printL]
          clear hqs
          go_enter Tryd.func6, Tryd.ntmps6
          go_wp2_with (first
            | (go_at_call 8; refine (mPlain_any _ (by omega) m _ HM.out).mono ?_; rintro e w1 ⟨he, rfl⟩; rw [HT.out] at he; subst he)
            | (go_at_call 14; refine (r4Quote_any _ (by omega) _).mono ?_; rintro e w1 ⟨he, rfl⟩; rw [HQ.out] at he; subst he)
            | (go_at_call 11; refine (msplit_to _ _ hq1.out (by simp only [ByteArray.size_append]; omega) m _ HM.out h0).mono ?_; rintro e w2 ⟨v2, he, hb, ho⟩
               obtain ⟨g2, c2, hv2, hg2, hx2⟩ := own_later ho
               subst hv2 he
               have HC2 := Lib.hid hx2
               have HB2 := Lib.hid hb
               have HM2 : Hid (w2.cell? ⟨0, 0, none⟩ = some (.int .i64 m)) := (hb.cell (p := ⟨0, 0, none⟩) h0).trans HM.out
               have h02 : 0 < w2.heap.size := Nat.lt_of_lt_of_le h0 hb.size
               have k0 := hx2 w2 (Below.refl _ _) 0 _ rfl
               have k1 : w2.cell? ⟨g2, 1, none⟩ = some (.string (⟨#[112, 114, 105, 110, 116, 32]⟩ ++ q)) := (hx2 w2 (Below.refl _ _) 1 _ rfl).trans HP1.out
               have k2 := hx2 w2 (Below.refl _ _) 2 _ rfl
               clear hb ho hx2)
            | (go_at_call 10; refine (law6awake_any m _ HM2.out h02).mono ?_; rintro e w4 ⟨rfl, hb⟩
               have HB4 := Lib.hid hb
               have l3 := HC2.out w4 hb 3 _ rfl
               have l4 := HC2.out w4 hb 4 _ rfl
               clear hb k0 k1 k2))
          go_ret
          exact ⟨rfl, HB2.out.trans (HB4.out.mono HB2.out.size)⟩
    · go_enter Tryd.func6, Tryd.ntmps6
      go_wp2_with (first
        | (go_at_call 10; refine (law6awake_any m _ HM.out h0).mono ?_; rintro e w1 ⟨rfl, hb⟩))
      go_ret
      exact ⟨rfl, hb⟩
  · go_enter Tryd.func6, Tryd.ntmps6
    go_wp2_with (first
      | (go_at_call 10; refine (law6awake_any m _ HM.out h0).mono ?_; rintro e w1 ⟨rfl, hb⟩))
    go_ret
    exact ⟨rfl, hb⟩

end Go.Proofs.YtomdkmhaohcofaaDoor
