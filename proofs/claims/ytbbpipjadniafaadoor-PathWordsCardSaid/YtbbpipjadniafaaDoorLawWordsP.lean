/-
  PathWords: the law's contract.
-/
import Derived.Test.YtbbpipjadniafaaDoorRWordP
import Derived.Test.YtbbpipjadniafaaDoorWordT
import Derived.Test.YtbbpipjadniafaaDoorPathA
set_option linter.unusedVariables false
set_option linter.unusedSimpArgs false
namespace Go.Proofs.YtbbpipjadniafaaDoor
open Go.RowKit

/-- Have all of the first been words? -/
def wordsTo (ks : List ByteArray) (j : Nat) : Bool := decide (0 < ks.length) && wordsK (ks.take j)
theorem wordsTo_next (ks : List ByteArray) (j : Nat) (h : j < ks.length) : wordsTo ks (j + 1) = (wordsTo ks j && wordL ks[j].data.toList) := by
  unfold wordsTo wordsK
  rw [List.take_succ_eq_append_getElem h, List.all_append, Bool.and_assoc]
  simp
theorem wordsTo_all (ks : List ByteArray) : wordsTo ks ks.length = (decide (0 < ks.length) && wordsK ks) := by
  unfold wordsTo
  rw [List.take_length]

set_option maxRecDepth 100000 in
set_option maxHeartbeats 8000000 in
theorem pathWords_any {w0 : World} {ks ms : List ByteArray} {la wa : Option Addr} {lc wc : Nat} (h1 : SliceS w0 ks la lc) (h2 : SliceS w0 ms wa wc) (s : ByteArray) (hs : s.size ≤ 140737488355328) (m : Int) (w : World) (hw : Below w0.heap.size w0 w) (hm : w0.cell? ⟨0, 0, none⟩ = some (.int .i64 m)) :
    Calls Tryd.prog 3 #[.string s, .slice la ks.length lc, .slice wa ms.length wc] w fun e w' => e = .returned (.bool true) ∧ Below w.heap.size w w' := by
  have lk := h1.le
  have lm := h2.le
  have bk := h1.big
  have bm := h2.big
  have H1 := Lib.hid h1
  have H2 := Lib.hid h2
  have HM : Hid (∀ wb, Below w.heap.size w wb → wb.cell? ⟨0, 0, none⟩ = some (.int .i64 m)) := fun wb hb => cells_frame (bstep hw hb hw.size) hm
  have HW := Lib.hid hw
  clear h1 h2 hm hw
  have AW : Hid (∀ wb, Calls Tryd.prog 4 #[] wb fun e w' => e = .returned (.bool true) ∧ Below wb.heap.size wb w') := fun wb => l2awake_any wb
  by_cases f1 : s.size ≤ 1000
  case neg =>
    have g1 : ((s.size : Int) > 1000) := by omega
    go_enter Tryd.func3, Tryd.ntmps3
    go_wp2_with (go_at_call 4; refine (AW.out _).mono ?_; rintro e w1 ⟨rfl, hb1⟩)
    go_ret
    exact ⟨rfl, hb1⟩
  by_cases f2 : ks.length ≤ 20
  case neg =>
    have g1 : ¬ ((s.size : Int) > 1000) := by omega
    have g2 : ((ks.length : Int) > 20) := by omega
    go_enter Tryd.func3, Tryd.ntmps3
    go_wp2_with (go_at_call 4; refine (AW.out _).mono ?_; rintro e w1 ⟨rfl, hb1⟩)
    go_ret
    exact ⟨rfl, hb1⟩
  by_cases f3 : ms.length ≤ 20
  case neg =>
    have g1 : ¬ ((s.size : Int) > 1000) := by omega
    have g2 : ¬ ((ks.length : Int) > 20) := by omega
    have g3 : ((ms.length : Int) > 20) := by omega
    go_enter Tryd.func3, Tryd.ntmps3
    go_wp2_with (go_at_call 4; refine (AW.out _).mono ?_; rintro e w1 ⟨rfl, hb1⟩)
    go_ret
    exact ⟨rfl, hb1⟩
  have g1 : ¬ ((s.size : Int) > 1000) := by omega
  have g2 : ¬ ((ks.length : Int) > 20) := by omega
  have g3 : ¬ ((ms.length : Int) > 20) := by omega
  have HP := Lib.hid (pParse_any s (by omega) m w (HM.out w (Below.refl _ _)))
  have HR := Lib.hid (fun wb => r2Parse_any s f1 wb)
  have hcode : ∀ xs : List ByteArray, datS xs = (parseD s.data.toList).1 → xs.length ≤ 1000 ∧ ((parseD s.data.toList).2 = 0 → printS xs = s) := by
    intro xs hx
    have hln : xs.length = (parseD s.data.toList).1.length := by rw [← hx]; unfold datS; rw [List.length_map]
    revert hx hln
    unfold parseD
    by_cases h16 : 16 ≤ (cutD s.data.toList).length
    · rw [if_pos h16]
      exact fun _ hln => ⟨by rw [hln]; simp, fun h => by simp at h⟩
    · rw [if_neg h16]
      cases hall : (cutD s.data.toList).all wordL with
      | false => exact fun _ hln => ⟨by rw [hln]; simp, fun h => by simp at h⟩
      | true =>
        intro hx hln
        simp only [if_true] at hx hln
        refine ⟨by omega, fun _ => ?_⟩
        unfold printS
        rw [words_dat, hx, hall, if_pos rfl, joinD_cut]
  have HCD := Lib.hid hcode
  clear hcode
  obtain ⟨cd, hcd⟩ : ∃ cd, cd = (parseD s.data.toList).2 := ⟨_, rfl⟩
  obtain ⟨L, hL⟩ : ∃ L, L = (parseD s.data.toList).1 := ⟨_, rfl⟩
  unfold Parsed at HP HR
  rw [← hcd, ← hL] at HP HR HCD
  clear hcd hL
  have HWN : Hid (∀ wb, Below w.heap.size w wb → Calls Tryd.prog 8 #[.slice la ks.length lc] wb fun e w' => e = .returned (.string (printS ks)) ∧ Below wb.heap.size wb w') := fun wb hb => pPrint_any H1.out (by omega) wb (bstep HW.out hb HW.out.size)
  have H1W : Hid (∀ wb, Below w.heap.size w wb → SliceS wb ks la lc) := fun wb hb => H1.out.later (bstep HW.out hb HW.out.size)
  obtain ⟨ps, hps⟩ : ∃ ps, ps = printS ks := ⟨_, rfl⟩
  have HPS := Lib.hid hps
  rw [← hps] at HWN
  clear hps
  have hss : (s.toList != s.toList) = false := by simp
  have hss2 : (s.toList == s.toList) = true := by simp
  have BG : Hid (∀ wb, Below w.heap.size w wb → Calls Tryd.prog 10 #[.slice la ks.length lc, .slice wa ms.length wc] wb fun e w' => e = .returned (.bool (beginsB ks ms)) ∧ Below wb.heap.size wb w') := fun wb hb => pBegins_any H1.out H2.out wb (bstep HW.out hb HW.out.size)
  have RB : Hid (∀ wb, Below w.heap.size w wb → Calls Tryd.prog 11 #[.slice la ks.length lc, .slice wa ms.length wc] wb fun e w' => e = .returned (.bool (beginsB ks ms)) ∧ Below wb.heap.size wb w') := fun wb hb => r2Begins_any H1.out H2.out wb (bstep HW.out hb HW.out.size)
  have hc : (cd == 0) = true ∨ (cd == 0) = false := by cases cd == 0 <;> simp
  have HCE : Hid ((cd == 0) = true → cd = 0) := fun h => by simpa using h
  rcases hc with hc1 | hc1
  case inl =>
    go_enter Tryd.func3, Tryd.ntmps3
    go_wp2_with (first
      | (go_at_call 5; refine HP.out.mono ?_; rintro e w1 ⟨xs, xa, xc, rfl, hX, hxd, hb1⟩)
      | (go_at_call 6; refine (HR.out _).mono ?_; rintro e w2 ⟨ys, ya, yc, rfl, hY, hyd, hb2⟩; obtain rfl : ys = xs := (dat_inj hyd).trans (dat_inj hxd).symm)
      | (go_at_call 7; refine (l2texts_any (hX.later hb2) hY _ (Below.refl _ _)).mono ?_; rintro e w3 ⟨rfl, hb3⟩)
      | (go_at_call 8; refine (pPrint_any (hX.later hb2) (HCD.out ys hxd).1 _ hb3).mono ?_; rintro e w4 ⟨he, hb4⟩; rw [(HCD.out ys hxd).2 (HCE.out hc1)] at he; subst he))
    have HB4 := Lib.hid (bstep (bstep (bstep hb1 hb2 hb1.size) hb3 (Nat.le_trans hb1.size hb2.size)) hb4 (Nat.le_trans (Nat.le_trans hb1.size hb2.size) hb3.size))
    have HK4 := Lib.hid (H1W.out _ HB4.out)
    clear hX hY hxd hyd hb1 hb2 hb3 hb4
    go_loop [11, 65] (fun v11 vi => ∃ j : Nat, j ≤ ks.length ∧ vi = .int .i64 j ∧ v11 = .bool (wordsTo ks j)) (fun _ vi => ks.length - (intOf vi).toNat)
    case atStart => exact ⟨0, Nat.zero_le _, rfl, by simp [wordsTo, wordsK]⟩
    case round =>
      obtain ⟨j, hj, rfl, rfl⟩ := hrel
      by_cases hjl : j < ks.length
      · obtain ⟨b, o, rfl⟩ := HK4.out.ofSome (by omega)
        have r0 := HK4.out.cell j hjl b o rfl
        have HC := Lib.hid (r2Word_any ks[j] (HK4.out.sizes j hjl))
        have HN := Lib.hid (wordsTo_next ks j hjl)
        obtain ⟨bb, hbb⟩ : ∃ bb, bb = wordL ks[j].data.toList := ⟨_, rfl⟩
        obtain ⟨b2, hb2⟩ : ∃ b2, b2 = wordsTo ks j := ⟨_, rfl⟩
        rw [← hbb] at HC HN
        rw [← hb2] at HN ⊢
        clear hbb hb2
        cases b2 <;> (
          go_wp2_with (go_at_call 9; refine (HC.out _).mono ?_; rintro e w9 ⟨rfl, rfl⟩)
          go_round
          case rel => exact ⟨j + 1, by omega, by go_num, by rw [HN.out]; rfl⟩
          case measure => simp [intOf]; omega)
      · obtain rfl : j = ks.length := by omega
        rw [wordsTo_all]
        cases hb : (decide (0 < ks.length) && wordsK ks) with
        | false =>
          have hpe : ps = ⟨#[]⟩ := by
            rw [HPS.out]
            unfold printS
            cases hw : wordsK ks with
            | false => rfl
            | true =>
              rw [hw, Bool.and_true, decide_eq_false_iff_not] at hb
              obtain rfl : ks = [] := List.eq_nil_of_length_eq_zero (by omega)
              rfl
          clear hb
          subst hpe
          go_wp2_with (go_at_call 8; refine (HWN.out _ HB4.out).mono ?_; rintro e w5 ⟨rfl, hb5⟩)
          have HB5 := Lib.hid (bstep HB4.out hb5 HB4.out.size)
          clear hb5
          go_wp2_with (first
            | (go_at_call 4; refine (AW.out _).mono ?_; rintro e w6 ⟨rfl, hb6⟩)
            | (go_at_call 10; refine (BG.out _ (bstep HB5.out hb6 HB5.out.size)).mono ?_; rintro e w7 ⟨rfl, hb7⟩)
            | (go_at_call 11; refine (RB.out _ (bstep HB5.out (bstep hb6 hb7 hb6.size) HB5.out.size)).mono ?_; rintro e w8 ⟨rfl, hb8⟩))
          go_ret
          exact ⟨ret_bool (by simp), bstep HB5.out (bstep hb6 (bstep hb7 hb8 hb7.size) hb6.size) HB5.out.size⟩
        | true =>
          rw [Bool.and_eq_true, decide_eq_true_eq] at hb
          obtain ⟨hk0, hwk⟩ := hb
          have hpe : ps = ⟨(joinD (datS ks)).toArray⟩ := by rw [HPS.out]; unfold printS; rw [hwk, if_pos rfl]
          have hdl : (datS ks).length = ks.length := by unfold datS; rw [List.length_map]
          have hpd : ps.data.toList = joinD (datS ks) := by rw [hpe]
          have hpz : ps.size ≤ 1000000 := by
            have h := joinD_len (datS ks) (words_len hwk)
            rw [Lib.size_eq, hpd]
            omega
          have hcut : cutD ps.data.toList = datS ks := by
            rw [hpd]
            exact cutD_join _ (by intro e; rw [e] at hdl; simp at hdl; omega) (words_dot hwk)
          have hpp : parseD ps.data.toList = if 16 ≤ ks.length then ([], 5) else (datS ks, 0) := by
            unfold parseD
            rw [hcut, hdl, ← words_dat, hwk]
            rfl
          have HPP : Hid (∀ wb, Below w.heap.size w wb → Calls Tryd.prog 5 #[.string ps] wb (Parsed wb ps.data.toList)) := fun wb hb => pParse_any ps hpz m wb (HM.out wb hb)
          clear hpe hpd hpz hcut hdl hwk
          unfold Parsed at HPP
          by_cases h16 : 16 ≤ ks.length
          · rw [hpp, if_pos h16] at HPP
            clear hpp
            have z1 : ((ks.length : Int) ≥ 16) := by omega
            go_wp2_with (go_at_call 8; refine (HWN.out _ HB4.out).mono ?_; rintro e w5 ⟨rfl, hb5⟩)
            have HB5 := Lib.hid (bstep HB4.out hb5 HB4.out.size)
            clear hb5
            go_wp2_with (go_at_call 5; refine (HPP.out _ HB5.out).mono ?_; rintro e w6 ⟨bs, ba, bc, rfl, hBS, hbd, hb6⟩)
            have HB6 := Lib.hid (bstep HB5.out hb6 HB5.out.size)
            clear hb6 hBS hbd
            go_wp2_with (first
              | (go_at_call 4; refine (AW.out _).mono ?_; rintro e w7 ⟨rfl, hb7⟩)
              | (go_at_call 10; refine (BG.out _ (bstep HB6.out hb7 HB6.out.size)).mono ?_; rintro e w8 ⟨rfl, hb8⟩)
              | (go_at_call 11; refine (RB.out _ (bstep HB6.out (bstep hb7 hb8 hb7.size) HB6.out.size)).mono ?_; rintro e w9 ⟨rfl, hb9⟩))
            go_ret
            exact ⟨ret_bool (by simp), bstep HB6.out (bstep hb7 (bstep hb8 hb9 hb8.size) hb7.size) HB6.out.size⟩
          · rw [hpp, if_neg h16] at HPP
            clear hpp
            have z1 : ¬ ((ks.length : Int) ≥ 16) := by omega
            go_wp2_with (go_at_call 8; refine (HWN.out _ HB4.out).mono ?_; rintro e w5 ⟨rfl, hb5⟩)
            have HB5 := Lib.hid (bstep HB4.out hb5 HB4.out.size)
            clear hb5
            go_wp2_with (go_at_call 5; refine (HPP.out _ HB5.out).mono ?_; rintro e w6 ⟨bs, ba, bc, rfl, hBS, hbd, hb6⟩)
            have HB6 := Lib.hid (bstep HB5.out hb6 HB5.out.size)
            clear hb6
            obtain rfl : bs = ks := (dat_inj hbd).trans (dat_inj rfl).symm
            have HT : Hid (∀ wb, Below w6.heap.size w6 wb → Calls Tryd.prog 7 #[.slice ba bs.length bc, .slice la bs.length lc] wb fun e w' => e = .returned (.bool true) ∧ Below wb.heap.size wb w') := fun wb hb => l2texts_any hBS (H1W.out _ HB6.out) wb hb
            clear hBS hbd
            go_wp2_with (first
              | (go_at_call 4; refine (AW.out _).mono ?_; rintro e w7 ⟨rfl, hb7⟩)
              | (go_at_call 10; refine (BG.out _ (bstep HB6.out hb7 HB6.out.size)).mono ?_; rintro e w8 ⟨rfl, hb8⟩)
              | (go_at_call 11; refine (RB.out _ (bstep HB6.out (bstep hb7 hb8 hb7.size) HB6.out.size)).mono ?_; rintro e w9 ⟨rfl, hb9⟩)
              | (go_at_call 7; refine (HT.out _ (bstep hb7 (bstep hb8 hb9 hb8.size) hb7.size)).mono ?_; rintro e w10 ⟨rfl, hb10⟩))
            go_ret
            exact ⟨ret_bool (by simp), bstep HB6.out (bstep hb7 (bstep hb8 (bstep hb9 hb10 hb9.size) hb8.size) hb7.size) HB6.out.size⟩
  case inr =>
    go_enter Tryd.func3, Tryd.ntmps3
    go_wp2_with (first
      | (go_at_call 5; refine HP.out.mono ?_; rintro e w1 ⟨xs, xa, xc, rfl, hX, hxd, hb1⟩)
      | (go_at_call 6; refine (HR.out _).mono ?_; rintro e w2 ⟨ys, ya, yc, rfl, hY, hyd, hb2⟩; obtain rfl : ys = xs := (dat_inj hyd).trans (dat_inj hxd).symm)
      | (go_at_call 7; refine (l2texts_any (hX.later hb2) hY _ (Below.refl _ _)).mono ?_; rintro e w3 ⟨rfl, hb3⟩))
    have HB4 := Lib.hid (bstep (bstep hb1 hb2 hb1.size) hb3 (Nat.le_trans hb1.size hb2.size))
    have HK4 := Lib.hid (H1W.out _ HB4.out)
    clear hX hY hxd hyd hb1 hb2 hb3
    go_loop [11, 65] (fun v11 vi => ∃ j : Nat, j ≤ ks.length ∧ vi = .int .i64 j ∧ v11 = .bool (wordsTo ks j)) (fun _ vi => ks.length - (intOf vi).toNat)
    case atStart => exact ⟨0, Nat.zero_le _, rfl, by simp [wordsTo, wordsK]⟩
    case round =>
      obtain ⟨j, hj, rfl, rfl⟩ := hrel
      by_cases hjl : j < ks.length
      · obtain ⟨b, o, rfl⟩ := HK4.out.ofSome (by omega)
        have r0 := HK4.out.cell j hjl b o rfl
        have HC := Lib.hid (r2Word_any ks[j] (HK4.out.sizes j hjl))
        have HN := Lib.hid (wordsTo_next ks j hjl)
        obtain ⟨bb, hbb⟩ : ∃ bb, bb = wordL ks[j].data.toList := ⟨_, rfl⟩
        obtain ⟨b2, hb2⟩ : ∃ b2, b2 = wordsTo ks j := ⟨_, rfl⟩
        rw [← hbb] at HC HN
        rw [← hb2] at HN ⊢
        clear hbb hb2
        cases b2 <;> (
          go_wp2_with (go_at_call 9; refine (HC.out _).mono ?_; rintro e w9 ⟨rfl, rfl⟩)
          go_round
          case rel => exact ⟨j + 1, by omega, by go_num, by rw [HN.out]; rfl⟩
          case measure => simp [intOf]; omega)
      · obtain rfl : j = ks.length := by omega
        rw [wordsTo_all]
        cases hb : (decide (0 < ks.length) && wordsK ks) with
        | false =>
          have hpe : ps = ⟨#[]⟩ := by
            rw [HPS.out]
            unfold printS
            cases hw : wordsK ks with
            | false => rfl
            | true =>
              rw [hw, Bool.and_true, decide_eq_false_iff_not] at hb
              obtain rfl : ks = [] := List.eq_nil_of_length_eq_zero (by omega)
              rfl
          clear hb
          subst hpe
          go_wp2_with (go_at_call 8; refine (HWN.out _ HB4.out).mono ?_; rintro e w5 ⟨rfl, hb5⟩)
          have HB5 := Lib.hid (bstep HB4.out hb5 HB4.out.size)
          clear hb5
          go_wp2_with (first
            | (go_at_call 4; refine (AW.out _).mono ?_; rintro e w6 ⟨rfl, hb6⟩)
            | (go_at_call 10; refine (BG.out _ (bstep HB5.out hb6 HB5.out.size)).mono ?_; rintro e w7 ⟨rfl, hb7⟩)
            | (go_at_call 11; refine (RB.out _ (bstep HB5.out (bstep hb6 hb7 hb6.size) HB5.out.size)).mono ?_; rintro e w8 ⟨rfl, hb8⟩))
          go_ret
          exact ⟨ret_bool (by simp), bstep HB5.out (bstep hb6 (bstep hb7 hb8 hb7.size) hb6.size) HB5.out.size⟩
        | true =>
          rw [Bool.and_eq_true, decide_eq_true_eq] at hb
          obtain ⟨hk0, hwk⟩ := hb
          have hpe : ps = ⟨(joinD (datS ks)).toArray⟩ := by rw [HPS.out]; unfold printS; rw [hwk, if_pos rfl]
          have hdl : (datS ks).length = ks.length := by unfold datS; rw [List.length_map]
          have hpd : ps.data.toList = joinD (datS ks) := by rw [hpe]
          have hpz : ps.size ≤ 1000000 := by
            have h := joinD_len (datS ks) (words_len hwk)
            rw [Lib.size_eq, hpd]
            omega
          have hcut : cutD ps.data.toList = datS ks := by
            rw [hpd]
            exact cutD_join _ (by intro e; rw [e] at hdl; simp at hdl; omega) (words_dot hwk)
          have hpp : parseD ps.data.toList = if 16 ≤ ks.length then ([], 5) else (datS ks, 0) := by
            unfold parseD
            rw [hcut, hdl, ← words_dat, hwk]
            rfl
          have HPP : Hid (∀ wb, Below w.heap.size w wb → Calls Tryd.prog 5 #[.string ps] wb (Parsed wb ps.data.toList)) := fun wb hb => pParse_any ps hpz m wb (HM.out wb hb)
          clear hpe hpd hpz hcut hdl hwk
          unfold Parsed at HPP
          by_cases h16 : 16 ≤ ks.length
          · rw [hpp, if_pos h16] at HPP
            clear hpp
            have z1 : ((ks.length : Int) ≥ 16) := by omega
            go_wp2_with (go_at_call 8; refine (HWN.out _ HB4.out).mono ?_; rintro e w5 ⟨rfl, hb5⟩)
            have HB5 := Lib.hid (bstep HB4.out hb5 HB4.out.size)
            clear hb5
            go_wp2_with (go_at_call 5; refine (HPP.out _ HB5.out).mono ?_; rintro e w6 ⟨bs, ba, bc, rfl, hBS, hbd, hb6⟩)
            have HB6 := Lib.hid (bstep HB5.out hb6 HB5.out.size)
            clear hb6 hBS hbd
            go_wp2_with (first
              | (go_at_call 4; refine (AW.out _).mono ?_; rintro e w7 ⟨rfl, hb7⟩)
              | (go_at_call 10; refine (BG.out _ (bstep HB6.out hb7 HB6.out.size)).mono ?_; rintro e w8 ⟨rfl, hb8⟩)
              | (go_at_call 11; refine (RB.out _ (bstep HB6.out (bstep hb7 hb8 hb7.size) HB6.out.size)).mono ?_; rintro e w9 ⟨rfl, hb9⟩))
            go_ret
            exact ⟨ret_bool (by simp), bstep HB6.out (bstep hb7 (bstep hb8 hb9 hb8.size) hb7.size) HB6.out.size⟩
          · rw [hpp, if_neg h16] at HPP
            clear hpp
            have z1 : ¬ ((ks.length : Int) ≥ 16) := by omega
            go_wp2_with (go_at_call 8; refine (HWN.out _ HB4.out).mono ?_; rintro e w5 ⟨rfl, hb5⟩)
            have HB5 := Lib.hid (bstep HB4.out hb5 HB4.out.size)
            clear hb5
            go_wp2_with (go_at_call 5; refine (HPP.out _ HB5.out).mono ?_; rintro e w6 ⟨bs, ba, bc, rfl, hBS, hbd, hb6⟩)
            have HB6 := Lib.hid (bstep HB5.out hb6 HB5.out.size)
            clear hb6
            obtain rfl : bs = ks := (dat_inj hbd).trans (dat_inj rfl).symm
            have HT : Hid (∀ wb, Below w6.heap.size w6 wb → Calls Tryd.prog 7 #[.slice ba bs.length bc, .slice la bs.length lc] wb fun e w' => e = .returned (.bool true) ∧ Below wb.heap.size wb w') := fun wb hb => l2texts_any hBS (H1W.out _ HB6.out) wb hb
            clear hBS hbd
            go_wp2_with (first
              | (go_at_call 4; refine (AW.out _).mono ?_; rintro e w7 ⟨rfl, hb7⟩)
              | (go_at_call 10; refine (BG.out _ (bstep HB6.out hb7 HB6.out.size)).mono ?_; rintro e w8 ⟨rfl, hb8⟩)
              | (go_at_call 11; refine (RB.out _ (bstep HB6.out (bstep hb7 hb8 hb7.size) HB6.out.size)).mono ?_; rintro e w9 ⟨rfl, hb9⟩)
              | (go_at_call 7; refine (HT.out _ (bstep hb7 (bstep hb8 hb9 hb8.size) hb7.size)).mono ?_; rintro e w10 ⟨rfl, hb10⟩))
            go_ret
            exact ⟨ret_bool (by simp), bstep HB6.out (bstep hb7 (bstep hb8 (bstep hb9 hb10 hb9.size) hb8.size) hb7.size) HB6.out.size⟩
end Go.Proofs.YtbbpipjadniafaaDoor
