/-
  LayerDiffs, walked.
-/
import Derived.Test.YtcafackiofncmaaTwo
import Derived.Test.YtcafackiofncmaaDiff
import Derived.Test.YtcafackiofncmaaLawLast
import Derived.Test.YtcafackiofncmaaDiffZ
set_option linter.unusedVariables false
set_option linter.unusedSimpArgs false
namespace Go.Proofs.Ytcafackiofncmaa
open Go.RowKit Go.Sort

def IsV (cs : Array Value) (x : Value) (_ : World) : Prop := x = .agg cs
theorem isV_later (cs : Array Value) : ∀ x w w', Below w.heap.size w w' → IsV cs x w → IsV cs x w' := fun _ _ _ _ h => h

set_option maxRecDepth 100000 in
set_option maxHeartbeats 4000000 in
theorem layerDiffs_any {w0 : World} {R1 R2 : Nat → Prop} {t u : T} {cs ds : Array Value} (h1 : Lies w0 R1 t cs) (h2 : Lies w0 R2 u ds) (w : World) (hw : Below w0.heap.size w0 w) :
    Calls Try.prog 4 #[.agg cs, .agg ds] w fun e w' => e = .returned (.bool true) ∧ Below w.heap.size w w' := by
  have K1 := Lib.hid h1
  have K2 := Lib.hid h2
  obtain ⟨k, b, n, s, la, ll, lc, ma, ml, mc, rfl⟩ := h1.six
  obtain ⟨k', b', n', s', la', ll', lc', ma', ml', mc', rfl⟩ := h2.six
  have kt : t.kind = k := lies_kind h1
  have ku : u.kind = k' := lies_kind h2
  have hw2 := (((Below.refl w.heap.size w).alloc (Nat.le_refl _) (.cells #[.int .i64 k, .bool b, .int .i64 n, .string s, .slice la ll lc, .slice ma ml mc] 25)).alloc (by simp) (.cells #[.int .i64 k', .bool b', .int .i64 n', .string s', .slice la' ll' lc', .slice ma' ml' mc'] 25))
  have g2 := bstep hw hw2 hw.size
  have hw3 := hw2.alloc (by simp; omega) (.cells #[.int .i64 k, .bool b, .int .i64 n, .string s, .slice la ll lc, .slice ma ml mc, .int .i64 k', .bool b', .int .i64 n', .string s', .slice la' ll' lc', .slice ma' ml' mc'] 25)
  have HS := Lib.hid (two_values (h1.later g2) (h2.later g2))
  have HAB := Lib.hid (fun (wr : World) hb => arg_boxes2 (w := w) (wr := wr) (N := w.heap.size + 3) (A := #[.int .i64 k, .bool b, .int .i64 n, .string s, .slice la ll lc, .slice ma ml mc]) (t1 := 25) (B := #[.int .i64 k', .bool b', .int .i64 n', .string s', .slice la' ll' lc', .slice ma' ml' mc']) (t2 := 25) (o3 := .cells #[.int .i64 k, .bool b, .int .i64 n, .string s, .slice la ll lc, .slice ma ml mc, .int .i64 k', .bool b', .int .i64 n', .string s', .slice la' ll' lc', .slice ma' ml' mc'] 25) hb (by omega))
  have HW3 := Lib.hid hw3
  clear hw2 g2 hw3 h1 h2
  have hsz : ((w.alloc (.cells #[.int .i64 k, .bool b, .int .i64 n, .string s, .slice la ll lc, .slice ma ml mc] 25)).alloc (.cells #[.int .i64 k', .bool b', .int .i64 n', .string s', .slice la' ll' lc', .slice ma' ml' mc'] 25)).heap.size = w.heap.size + 1 + 1 := by simp
  go_enter Try.func4, Try.ntmps4
  go_wp2_with fail
  have HR := right_any HS.out _ (Below.refl _ _)
  rw [hsz] at HR
  refine HR.mono ?_
  rintro e w5 ⟨rfl, hb5⟩
  have C5 := Lib.hid (bstep HW3.out hb5 (by simp; omega))
  have F5 := Lib.hid (bstep hw C5.out hw.size)
  have hb5' := hb5.mono (show w.heap.size + 3 ≤ _ by simp)
  have BA : Hid (BoxA w5 w.heap.size (.int .i64 k) (.bool b) (.int .i64 n) (.string s) (.slice la ll lc) (.slice ma ml mc)) := ⟨(HAB.out _ hb5' 0).1, (HAB.out _ hb5' 1).1, (HAB.out _ hb5' 2).1, (HAB.out _ hb5' 3).1, (HAB.out _ hb5' 4).1, (HAB.out _ hb5' 5).1⟩
  have BB : Hid (BoxA w5 (w.heap.size + 1) (.int .i64 k') (.bool b') (.int .i64 n') (.string s') (.slice la' ll' lc') (.slice ma' ml' mc')) := ⟨(HAB.out _ hb5' 0).2, (HAB.out _ hb5' 1).2, (HAB.out _ hb5' 2).2, (HAB.out _ hb5' 3).2, (HAB.out _ hb5' 4).2, (HAB.out _ hb5' 5).2⟩
  have xa0 := BA.out.1
  have xb0 := BB.out.1
  have hs5 : w.heap.size + 3 ≤ w5.heap.size := by have := hb5.size; simp at this; omega
  clear hb5 hb5' HAB HW3 HR HS hsz
  cases hg : [t, u].all T.good with
  | false =>
    go_wp2_with fail
    refine (awake3_any _).mono ?_
    rintro e w6 ⟨rfl, hb6⟩
    go_wp2_with fail
    go_ret
    exact ⟨rfl, bstep C5.out hb6 C5.out.size⟩
  | true =>
    by_cases hk : k = 5
    case neg =>
      have f1 : (k != 5) = true := by simp [hk]
      go_wp2_with fail
      refine (awake3_any _).mono ?_
      rintro e w6 ⟨rfl, hb6⟩
      go_wp2_with fail
      go_ret
      exact ⟨rfl, bstep C5.out hb6 C5.out.size⟩
    subst hk
    by_cases hk' : k' = 5
    case neg =>
      have f2 : (k' != 5) = true := by simp [hk']
      go_wp2_with fail
      refine (awake3_any _).mono ?_
      rintro e w6 ⟨rfl, hb6⟩
      go_wp2_with fail
      go_ret
      exact ⟨rfl, bstep C5.out hb6 C5.out.size⟩
    subst hk'
    have hgg : t.good = true ∧ u.good = true := by simpa using hg
    have htz : t.size ≤ 1000000 := by have := T.light_size (by have := hgg.1; unfold T.good at this; simp at this; exact this.1); omega
    have huz : u.size ≤ 1000000 := by have := T.light_size (by have := hgg.2; unfold T.good at this; simp at this; exact this.1); omega
    have T6 : Hid (t.size ≤ 6000 ∧ u.size ≤ 6000) := ⟨T.light_size (by have := hgg.1; unfold T.good at this; simp at this; exact this.1), T.light_size (by have := hgg.2; unfold T.good at this; simp at this; exact this.1)⟩
    have GP : Hid (t.parts = 0 ∧ u.parts = 0) := ⟨good_parts hgg.1, good_parts hgg.2⟩
    have KT : Hid (t.kind = 5 ∧ u.kind = 5) := ⟨kt, ku⟩
    clear hg hgg kt ku
    go_wp2_with fail
    clear xa0 xb0
    go_cut [5, 6] (fun v5 v6 wx => ∃ (g5 g6 : Nat) (p0 : Int) (p1 : Bool) (p2 : Int) (p3 : ByteArray) (p4 : Option Addr) (p4l p4c : Nat) (p5 : Option Addr) (p5l p5c : Nat) (q0 : Int) (q1 : Bool) (q2 : Int) (q3 : ByteArray) (q4 : Option Addr) (q4l q4c : Nat) (q5 : Option Addr) (q5l q5c : Nat), v5 = .pointer (some ⟨g5, 0, none⟩) ∧ v6 = .pointer (some ⟨g6, 0, none⟩) ∧ Hid (Row wx g5 0 #[.int .i64 p0, .bool p1, .int .i64 p2, .string p3, .slice p4 p4l p4c, .slice p5 p5l p5c]) ∧ Hid (Row wx g6 0 #[.int .i64 q0, .bool q1, .int .i64 q2, .string q3, .slice q4 q4l q4c, .slice q5 q5l q5c]) ∧ Hid (Lies wx (fun b => w5.heap.size ≤ b) (T.over T.nil t) #[.int .i64 p0, .bool p1, .int .i64 p2, .string p3, .slice p4 p4l p4c, .slice p5 p5l p5c]) ∧ Hid (Lies wx (fun b => w5.heap.size ≤ b) (T.over T.nil u) #[.int .i64 q0, .bool q1, .int .i64 q2, .string q3, .slice q4 q4l q4c, .slice q5 q5l q5c]) ∧ Below w5.heap.size w5 wx)
    case first =>
      have M0 := isV_later zeroA
      have M1 := isV_later #[.int .i64 5, .bool b, .int .i64 n, .string s, .slice la ll lc, .slice ma ml mc]
      have M3 := isV_later zeroA
      have M4 := isV_later #[.int .i64 5, .bool b', .int .i64 n', .string s', .slice la' ll' lc', .slice ma' ml' mc']
      refine wp_region_keeps (fun a0 d ac wb => Agree [24, 25, 26, 27, 28, 29, 5, 6] a0 ac ∧ Hid (ac.tmps.size = 78) ∧ sl ac 2 = .pointer (some ⟨w.heap.size, 0, none⟩) ∧ sl ac 3 = .pointer (some ⟨w.heap.size + 1, 0, none⟩) ∧ Phase w5 (T.over T.nil t) (T.over T.nil u) (IsV zeroA) (IsV #[.int .i64 5, .bool b, .int .i64 n, .string s, .slice la ll lc, .slice ma ml mc]) (IsV zeroA) (IsV #[.int .i64 5, .bool b', .int .i64 n', .string s', .slice la' ll' lc', .slice ma' ml' mc']) d (sl ac 24) (sl ac 25) (sl ac 26) (sl ac 27) (sl ac 28) (sl ac 29) (sl ac 5) (sl ac 6) wb) (by kernel_rfl) (by kernel_rfl) ?_ ?_ ?_
      · exact ⟨Agree.refl _ _, rfl, rfl, rfl, .inl ⟨rfl, rfl, by simp, by simp, by simp, by simp, by simp, by simp, Ph.start (Below.refl _ _).drew _ _ _ _⟩⟩
      · intro d ac wb i o K ho hd hdep hI hK
        obtain ⟨hA, hz, s2, s3, hP⟩ := hI
        have hi : i < 10 := by simpa using (Array.getElem?_eq_some_iff.1 ho).1
        rcases (by omega : i = 0 ∨ i = 1 ∨ i = 2 ∨ i = 3 ∨ i = 4 ∨ i = 5 ∨ i = 6 ∨ i = 7 ∨ i = 8 ∨ i = 9) with rfl | rfl | rfl | rfl | rfl | rfl | rfl | rfl | rfl | rfl
        · simp at ho
          subst ho
          refine wpOp_of rfl rfl ?_
          go_simp
          refine (tNull_any _).mono ?_
          rintro e w' ⟨rfl, hb⟩
          refine hK (ac.put (some 24) (.agg zeroA)) w' ⟨hA.put (by simp) _, (size_put _ _ _).trans hz.out, (sl_ne (by decide) _).trans s2, (sl_ne (by decide) _).trans s3, ?_⟩
          simp only [sl_if (show (24 : Nat) < ac.tmps.size by have := hz.out; omega), if_true, Nat.reduceEqDiff, if_false, reduceIte]
          exact hP.at0 M0 M1 M3 M4 hd hb rfl
        · simp at ho
          subst ho
          refine wpOp_of rfl rfl ?_
          obtain ⟨xa0, xa1, xa2, xa3, xa4, xa5⟩ := BA.out.later hP.below
          have s2' : ac.tmps[2]?.getD undef = _ := s2
          go_simp
          refine hK (ac.put (some 25) (.agg #[.int .i64 5, .bool b, .int .i64 n, .string s, .slice la ll lc, .slice ma ml mc])) wb ⟨hA.put (by simp) _, (size_put _ _ _).trans hz.out, (sl_ne (by decide) _).trans s2, (sl_ne (by decide) _).trans s3, ?_⟩
          simp only [sl_if (show (25 : Nat) < ac.tmps.size by have := hz.out; omega), if_true, Nat.reduceEqDiff, if_false, reduceIte]
          exact hP.at1 M0 M1 M3 M4 hd (Below.refl _ _) rfl
        · simp at ho
          subst ho
          refine wpOp_of rfl rfl ?_
          have da := hdep { on := 0, ground := .data } (by simp) rfl
          have db := hdep { on := 1, ground := .data } (by simp) rfl
          have xa : ac.tmps[24]?.getD undef = .agg #[.int .i64 0, .bool false, .int .i64 0, .string ⟨#[]⟩, .slice none 0 0, .slice none 0 0] := (hP.early (by decide) hd).2.2.1 da
          have xb : ac.tmps[25]?.getD undef = _ := (hP.early (by decide) hd).2.2.2.1 db
          go_simp
          refine (over_any (nil_lies wb (fun _ => True)) (K1.out.later (bstep F5.out hP.below F5.out.size)) wb (Below.refl _ _) (by show T.size (.mk 0 false 0 ⟨#[]⟩ [] []) ≤ _; rw [T.size_mk]; simp) htz).mono ?_
          rintro e w' ⟨cs, rfl, hL, hb⟩
          refine hK (ac.put (some 26) (.agg cs)) w' ⟨hA.put (by simp) _, (size_put _ _ _).trans hz.out, (sl_ne (by decide) _).trans s2, (sl_ne (by decide) _).trans s3, ?_⟩
          simp only [sl_if (show (26 : Nat) < ac.tmps.size by have := hz.out; omega), if_true, Nat.reduceEqDiff, if_false, reduceIte]
          exact hP.at2 M0 M1 M3 M4 hd da db hL hb
        · simp at ho
          subst ho
          refine wpOp_of rfl rfl ?_
          go_simp
          refine (tNull_any _).mono ?_
          rintro e w' ⟨rfl, hb⟩
          refine hK (ac.put (some 27) (.agg zeroA)) w' ⟨hA.put (by simp) _, (size_put _ _ _).trans hz.out, (sl_ne (by decide) _).trans s2, (sl_ne (by decide) _).trans s3, ?_⟩
          simp only [sl_if (show (27 : Nat) < ac.tmps.size by have := hz.out; omega), if_true, Nat.reduceEqDiff, if_false, reduceIte]
          exact hP.at3 M0 M1 M3 M4 hd hb rfl
        · simp at ho
          subst ho
          refine wpOp_of rfl rfl ?_
          obtain ⟨xb0, xb1, xb2, xb3, xb4, xb5⟩ := BB.out.later hP.below
          have s3' : ac.tmps[3]?.getD undef = _ := s3
          go_simp
          refine hK (ac.put (some 28) (.agg #[.int .i64 5, .bool b', .int .i64 n', .string s', .slice la' ll' lc', .slice ma' ml' mc'])) wb ⟨hA.put (by simp) _, (size_put _ _ _).trans hz.out, (sl_ne (by decide) _).trans s2, (sl_ne (by decide) _).trans s3, ?_⟩
          simp only [sl_if (show (28 : Nat) < ac.tmps.size by have := hz.out; omega), if_true, Nat.reduceEqDiff, if_false, reduceIte]
          exact hP.at4 M0 M1 M3 M4 hd (Below.refl _ _) rfl
        · simp at ho
          subst ho
          refine wpOp_of rfl rfl ?_
          have da := hdep { on := 3, ground := .data } (by simp) rfl
          have db := hdep { on := 4, ground := .data } (by simp) rfl
          have xa : ac.tmps[27]?.getD undef = .agg #[.int .i64 0, .bool false, .int .i64 0, .string ⟨#[]⟩, .slice none 0 0, .slice none 0 0] := (hP.early (by decide) hd).2.2.2.2.1 da
          have xb : ac.tmps[28]?.getD undef = _ := (hP.early (by decide) hd).2.2.2.2.2.1 db
          go_simp
          refine (over_any (nil_lies wb (fun _ => True)) (K2.out.later (bstep F5.out hP.below F5.out.size)) wb (Below.refl _ _) (by show T.size (.mk 0 false 0 ⟨#[]⟩ [] []) ≤ _; rw [T.size_mk]; simp) huz).mono ?_
          rintro e w' ⟨cs, rfl, hL, hb⟩
          refine hK (ac.put (some 29) (.agg cs)) w' ⟨hA.put (by simp) _, (size_put _ _ _).trans hz.out, (sl_ne (by decide) _).trans s2, (sl_ne (by decide) _).trans s3, ?_⟩
          simp only [sl_if (show (29 : Nat) < ac.tmps.size by have := hz.out; omega), if_true, Nat.reduceEqDiff, if_false, reduceIte]
          exact hP.at5 M0 M1 M3 M4 hd da db hL hb
        · simp at ho
          subst ho
          refine wpOp_of rfl rfl ?_
          go_simp
          refine hK (ac.put (some 5) (.pointer (some ⟨wb.heap.size, 0, none⟩))) _ ⟨hA.put (by simp) _, (size_put _ _ _).trans hz.out, (sl_ne (by decide) _).trans s2, (sl_ne (by decide) _).trans s3, ?_⟩
          simp only [sl_if (show (5 : Nat) < ac.tmps.size by have := hz.out; omega), if_true, Nat.reduceEqDiff, if_false, reduceIte]
          exact hP.at6 M0 M1 M3 M4 hd
        · simp at ho
          subst ho
          refine wpOp_of rfl rfl ?_
          go_simp
          refine hK (ac.put (some 6) (.pointer (some ⟨wb.heap.size, 0, none⟩))) _ ⟨hA.put (by simp) _, (size_put _ _ _).trans hz.out, (sl_ne (by decide) _).trans s2, (sl_ne (by decide) _).trans s3, ?_⟩
          simp only [sl_if (show (6 : Nat) < ac.tmps.size by have := hz.out; omega), if_true, Nat.reduceEqDiff, if_false, reduceIte]
          exact hP.at7 M0 M1 M3 M4 hd
        · simp at ho
          subst ho
          refine wpOp_of rfl rfl ?_
          have d6 := hdep { on := 6, ground := .data } (by simp) rfl
          have d2 := hdep { on := 2, ground := .data } (by simp) rfl
          have d5 := hdep { on := 5, ground := .chain } (by simp) rfl
          have d7 := hdep { on := 7, ground := .phase } (by simp) rfl
          obtain ⟨g5, g6, cs, ds, e2, e5, e6, e7, z5, hL, hP2⟩ := hP.laid hd d2 d5 d6 d7
          obtain ⟨p0, p1, p2, p3, p4, p4l, p4c, p5, p5l, p5c, rfl⟩ := hL.six
          have s5 : ac.tmps[5]?.getD undef = _ := e6
          have s26 : ac.tmps[26]?.getD undef = _ := e2
          have zc : ∀ j, wb.cell? ⟨g5, j, none⟩ = (#[.int .i64 0, .bool false, .int .i64 0, .string ⟨#[]⟩, .slice none 0 0, .slice none 0 0] : Array Value)[j]? := z5.cell
          have zf := z5.frozen
          go_simp
          exact hK ac _ ⟨hA, hz, s2, s3, hP2⟩
        · simp at ho
          subst ho
          refine wpOp_of rfl rfl ?_
          have d8 := hdep { on := 8, ground := .chain } (by simp) rfl
          obtain ⟨g6, ds, e5, e7, z6, hL, hP2⟩ := hP.both hd d8
          obtain ⟨q0, q1, q2, q3, q4, q4l, q4c, q5, q5l, q5c, rfl⟩ := hL.six
          have s6 : ac.tmps[6]?.getD undef = _ := e7
          have s29 : ac.tmps[29]?.getD undef = _ := e5
          have zc : ∀ j, wb.cell? ⟨g6, j, none⟩ = (#[.int .i64 0, .bool false, .int .i64 0, .string ⟨#[]⟩, .slice none 0 0, .slice none 0 0] : Array Value)[j]? := z6.cell
          have zf := z6.frozen
          go_simp
          exact hK ac _ ⟨hA, hz, s2, s3, hP2⟩
      · intro d ac wb hall hI
        obtain ⟨hA, hz, s2, s3, hP⟩ := hI
        obtain ⟨g5, g6, cs, ds, e5, e6, hF⟩ := hP.last (hall 9 (by decide))
        obtain ⟨p0, p1, p2, p3, p4, p4l, p4c, p5, p5l, p5c, rfl⟩ := hF.one.six
        obtain ⟨q0, q1, q2, q3, q4, q4l, q4c, q5, q5l, q5c, rfl⟩ := hF.two.six
        have hac := hA.act (fun t ht => by
          have h8 : t = 24 ∨ t = 25 ∨ t = 26 ∨ t = 27 ∨ t = 28 ∨ t = 29 ∨ t = 5 ∨ t = 6 := by simpa using ht
          rcases h8 with rfl | rfl | rfl | rfl | rfl | rfl | rfl | rfl <;> exact Nat.lt_of_lt_of_le (by decide : _ < 78) (Nat.le_refl 78))
        rw [List.foldl_cons, List.foldl_cons, List.foldl_cons, List.foldl_cons, List.foldl_cons, List.foldl_cons, List.foldl_cons, List.foldl_cons, List.foldl_nil, e5, e6] at hac
        generalize sl ac 24 = x24 at hac
        generalize sl ac 25 = x25 at hac
        generalize sl ac 26 = x26 at hac
        generalize sl ac 27 = x27 at hac
        generalize sl ac 28 = x28 at hac
        generalize sl ac 29 = x29 at hac
        clear hA hz s2 s3 hP e5 e6
        subst hac
        have HR1 : Hid (Row wb g5 0 #[.int .i64 p0, .bool p1, .int .i64 p2, .string p3, .slice p4 p4l p4c, .slice p5 p5l p5c]) := hF.box
        have HR2 : Hid (Row wb g6 0 #[.int .i64 q0, .bool q1, .int .i64 q2, .string q3, .slice q4 q4l q4c, .slice q5 q5l q5c]) := hF.box2
        have HL1 : Hid (Lies wb (fun b => w5.heap.size ≤ b) (T.over T.nil t) #[.int .i64 p0, .bool p1, .int .i64 p2, .string p3, .slice p4 p4l p4c, .slice p5 p5l p5c]) := hF.one
        have HL2 : Hid (Lies wb (fun b => w5.heap.size ≤ b) (T.over T.nil u) #[.int .i64 q0, .bool q1, .int .i64 q2, .string q3, .slice q4 q4l q4c, .slice q5 q5l q5c]) := hF.two
        have hBF := hF.below
        simp only [Act.put, List.setIfInBounds_toArray, List.set_cons_succ, List.set_cons_zero]
        go_wp2_with fail
        go_meet
        case rel => exact ⟨g5, g6, p0, p1, p2, p3, p4, p4l, p4c, p5, p5l, p5c, q0, q1, q2, q3, q4, q4l, q4c, q5, q5l, q5c, rfl, rfl, HR1, HR2, HL1, HL2, hBF⟩
    case rest =>
      obtain ⟨g5, g6, p0, p1, p2, p3, p4, p4l, p4c, p5, p5l, p5c, q0, q1, q2, q3, q4, q4l, q4c, q5, q5l, q5c, rfl, rfl, HR1, HR2, HL1, HL2, hBF⟩ := hcut
      have BP : Hid (BoxA wc g5 (.int .i64 p0) (.bool p1) (.int .i64 p2) (.string p3) (.slice p4 p4l p4c) (.slice p5 p5l p5c)) := HR1.out.six
      have BQ : Hid (BoxA wc g6 (.int .i64 q0) (.bool q1) (.int .i64 q2) (.string q3) (.slice q4 q4l q4c) (.slice q5 q5l q5c)) := HR2.out.six
      have SPP := str_over t GP.out.1 KT.out.1
      have SQQ := str_over u GP.out.2 KT.out.2
      have E1 := Lib.hid (SPP.diff SQQ)
      have E2 := Lib.hid SPP.self
      have E3 := Lib.hid (over_none5 GP.out.1 KT.out.1)
      have E4 := Lib.hid (none5_over _ SPP.str)
      have E5 := Lib.hid SPP.none
      have P1 := Lib.hid (plainT_of SPP.str)
      have P2 := Lib.hid (plainT_of SQQ.str)
      have PZ : Hid ((T.over T.nil t).size ≤ 1000000) := by show _ ≤ _; have h1 := over_sz t T.nil; have h2 := nil_size; omega
      have QZ : Hid ((T.over T.nil u).size ≤ 1000000) := by show _ ≤ _; have h1 := over_sz u T.nil; have h2 := nil_size; omega
      have DZ : Hid ((T.diff (T.over T.nil t) (T.over T.nil u)).size ≤ 1000000) := by
        show _ ≤ _
        have h0 := T6.out
        have h1 := over_sz t T.nil
        have h2 := nil_size
        have h3 := over_sz u T.nil
        have h4 := diff_sz (T.over T.nil u) (T.over T.nil t)
        omega
      have NZ : Hid (T.none5.size ≤ 1000000) := by show _ ≤ _; rw [none5_size]; omega
      have SP := Lib.hid (T.same_self (T.over T.nil t))
      have SQ := Lib.hid (T.same_self (T.over T.nil u))
      have ST := Lib.hid (T.same_self t)
      clear SPP SQQ
      obtain ⟨xp0, xp1, xp2, xp3, xp4, xp5⟩ := BP.out
      go_wp2_with fail
      refine (plain_any HL1.out _ (Below.refl _ _) PZ.out).mono ?_
      rintro e w7 ⟨rfl, hb7⟩
      rw [P1.out]
      clear xp0 xp1 xp2 xp3 xp4 xp5
      obtain ⟨xq0, xq1, xq2, xq3, xq4, xq5⟩ := BQ.out.later hb7
      go_wp2_with fail
      refine (plain_any (HL2.out.later hb7) _ (Below.refl _ _) QZ.out).mono ?_
      rintro e w8 ⟨rfl, hb8⟩
      rw [P2.out]
      clear xq0 xq1 xq2 xq3 xq4 xq5
      go_wp2_with fail
      refine (tMap_nil _).mono ?_
      rintro e w9 ⟨rfl, hb9⟩
      have hA9 := Lib.hid ((Below.refl w9.heap.size w9).alloc (Nat.le_refl _) (.cells #[.int .i64 5, .bool false, .int .i64 0, .string ⟨#[]⟩, .slice none 0 0, .slice none 0 0] 25))
      have hBB := Lib.hid (bstep hb7 (bstep hb8 (bstep hb9 hA9.out hb9.size) hb8.size) hb7.size)
      have BN : Hid (BoxA (w9.alloc (.cells #[.int .i64 5, .bool false, .int .i64 0, .string ⟨#[]⟩, .slice none 0 0, .slice none 0 0] 25)) w9.heap.size (.int .i64 5) (.bool false) (.int .i64 0) (.string ⟨#[]⟩) (.slice none 0 0) (.slice none 0 0)) := BoxA.new _ _ _ _ _ _ _ _
      go_wp2_with fail
      generalize hvb : w9.alloc (.cells #[.int .i64 5, .bool false, .int .i64 0, .string ⟨#[]⟩, .slice none 0 0, .slice none 0 0] 25) = vb at *
      clear hb7 hb8 hb9 hA9 hvb
      have LP := Lib.hid HL1.out
      have LQ := Lib.hid HL2.out
      have AB := Lib.hid (bstep hBF hBB.out hBF.size)
      have FB := Lib.hid (bstep F5.out AB.out F5.out.size)
      have CB := Lib.hid (bstep C5.out AB.out C5.out.size)
      have SK : Hid (∀ wx : World, (∀ b, b < vb.heap.size → wx.heap[b]? = vb.heap[b]?) → wx.cell? ⟨w.heap.size, 0, none⟩ = some (.int .i64 5) ∧ wx.cell? ⟨w.heap.size, 1, none⟩ = some (.bool b) ∧ wx.cell? ⟨w.heap.size, 2, none⟩ = some (.int .i64 n) ∧ wx.cell? ⟨w.heap.size, 3, none⟩ = some (.string s) ∧ wx.cell? ⟨w.heap.size, 4, none⟩ = some (.slice la ll lc) ∧ wx.cell? ⟨w.heap.size, 5, none⟩ = some (.slice ma ml mc) ∧ wx.cell? ⟨g5, 0, none⟩ = some (.int .i64 p0) ∧ wx.cell? ⟨g5, 1, none⟩ = some (.bool p1) ∧ wx.cell? ⟨g5, 2, none⟩ = some (.int .i64 p2) ∧ wx.cell? ⟨g5, 3, none⟩ = some (.string p3) ∧ wx.cell? ⟨g5, 4, none⟩ = some (.slice p4 p4l p4c) ∧ wx.cell? ⟨g5, 5, none⟩ = some (.slice p5 p5l p5c) ∧ wx.cell? ⟨g6, 0, none⟩ = some (.int .i64 q0) ∧ wx.cell? ⟨g6, 1, none⟩ = some (.bool q1) ∧ wx.cell? ⟨g6, 2, none⟩ = some (.int .i64 q2) ∧ wx.cell? ⟨g6, 3, none⟩ = some (.string q3) ∧ wx.cell? ⟨g6, 4, none⟩ = some (.slice q4 q4l q4c) ∧ wx.cell? ⟨g6, 5, none⟩ = some (.slice q5 q5l q5c) ∧ wx.cell? ⟨w9.heap.size, 0, none⟩ = some (.int .i64 5) ∧ wx.cell? ⟨w9.heap.size, 1, none⟩ = some (.bool false) ∧ wx.cell? ⟨w9.heap.size, 2, none⟩ = some (.int .i64 0) ∧ wx.cell? ⟨w9.heap.size, 3, none⟩ = some (.string ⟨#[]⟩) ∧ wx.cell? ⟨w9.heap.size, 4, none⟩ = some (.slice none 0 0) ∧ wx.cell? ⟨w9.heap.size, 5, none⟩ = some (.slice none 0 0)) := fun wx hx => by
        have ba := BA.out.later AB.out
        have bp := BP.out.later hBB.out
        have bq := BQ.out.later hBB.out
        have la := ba.lt
        have lp := bp.lt
        have lq := bq.lt
        have ln := BN.out.lt
        obtain ⟨xa0, xa1, xa2, xa3, xa4, xa5⟩ := ba
        obtain ⟨xp0, xp1, xp2, xp3, xp4, xp5⟩ := bp
        obtain ⟨xq0, xq1, xq2, xq3, xq4, xq5⟩ := bq
        obtain ⟨xn0, xn1, xn2, xn3, xn4, xn5⟩ := BN.out
        exact ⟨(World.cell?_of_block (hx _ la)).trans xa0, (World.cell?_of_block (hx _ la)).trans xa1, (World.cell?_of_block (hx _ la)).trans xa2, (World.cell?_of_block (hx _ la)).trans xa3, (World.cell?_of_block (hx _ la)).trans xa4, (World.cell?_of_block (hx _ la)).trans xa5, (World.cell?_of_block (hx _ lp)).trans xp0, (World.cell?_of_block (hx _ lp)).trans xp1, (World.cell?_of_block (hx _ lp)).trans xp2, (World.cell?_of_block (hx _ lp)).trans xp3, (World.cell?_of_block (hx _ lp)).trans xp4, (World.cell?_of_block (hx _ lp)).trans xp5, (World.cell?_of_block (hx _ lq)).trans xq0, (World.cell?_of_block (hx _ lq)).trans xq1, (World.cell?_of_block (hx _ lq)).trans xq2, (World.cell?_of_block (hx _ lq)).trans xq3, (World.cell?_of_block (hx _ lq)).trans xq4, (World.cell?_of_block (hx _ lq)).trans xq5, (World.cell?_of_block (hx _ ln)).trans xn0, (World.cell?_of_block (hx _ ln)).trans xn1, (World.cell?_of_block (hx _ ln)).trans xn2, (World.cell?_of_block (hx _ ln)).trans xn3, (World.cell?_of_block (hx _ ln)).trans xn4, (World.cell?_of_block (hx _ ln)).trans xn5⟩
      have HF : ∀ (W : World) (la : Option Addr) (lc : Nat) (ma : Option Addr) (mc : Nat), (Instr.field 25 (.agg #[.int .i64 5, .bool false, .int .i64 0, .string ⟨#[]⟩, .slice la 0 lc, .slice ma 0 mc]) 5).run Try.prog W = .ok (.slice ma 0 mc) W := fun W la lc ma mc => field_five 5 false 0 ⟨#[]⟩ la 0 lc ma 0 mc W
      have hq0 : ∀ b, b < vb.heap.size → vb.drew.heap[b]? = vb.heap[b]? := fun _ _ => rfl
      go_region_held3 (fun wx : World => wx.cell? ⟨w.heap.size, 0, none⟩ = some (.int .i64 5) ∧ wx.cell? ⟨w.heap.size, 1, none⟩ = some (.bool b) ∧ wx.cell? ⟨w.heap.size, 2, none⟩ = some (.int .i64 n) ∧ wx.cell? ⟨w.heap.size, 3, none⟩ = some (.string s) ∧ wx.cell? ⟨w.heap.size, 4, none⟩ = some (.slice la ll lc) ∧ wx.cell? ⟨w.heap.size, 5, none⟩ = some (.slice ma ml mc) ∧ wx.cell? ⟨g5, 0, none⟩ = some (.int .i64 p0) ∧ wx.cell? ⟨g5, 1, none⟩ = some (.bool p1) ∧ wx.cell? ⟨g5, 2, none⟩ = some (.int .i64 p2) ∧ wx.cell? ⟨g5, 3, none⟩ = some (.string p3) ∧ wx.cell? ⟨g5, 4, none⟩ = some (.slice p4 p4l p4c) ∧ wx.cell? ⟨g5, 5, none⟩ = some (.slice p5 p5l p5c) ∧ wx.cell? ⟨g6, 0, none⟩ = some (.int .i64 q0) ∧ wx.cell? ⟨g6, 1, none⟩ = some (.bool q1) ∧ wx.cell? ⟨g6, 2, none⟩ = some (.int .i64 q2) ∧ wx.cell? ⟨g6, 3, none⟩ = some (.string q3) ∧ wx.cell? ⟨g6, 4, none⟩ = some (.slice q4 q4l q4c) ∧ wx.cell? ⟨g6, 5, none⟩ = some (.slice q5 q5l q5c) ∧ wx.cell? ⟨w9.heap.size, 0, none⟩ = some (.int .i64 5) ∧ wx.cell? ⟨w9.heap.size, 1, none⟩ = some (.bool false) ∧ wx.cell? ⟨w9.heap.size, 2, none⟩ = some (.int .i64 0) ∧ wx.cell? ⟨w9.heap.size, 3, none⟩ = some (.string ⟨#[]⟩) ∧ wx.cell? ⟨w9.heap.size, 4, none⟩ = some (.slice none 0 0) ∧ wx.cell? ⟨w9.heap.size, 5, none⟩ = some (.slice none 0 0))
        (first
          | with_reducible exact SK.out _ hq20
          | with_reducible exact SK.out _ hq19
          | with_reducible exact SK.out _ hq18
          | with_reducible exact SK.out _ hq17
          | with_reducible exact SK.out _ hq16
          | with_reducible exact SK.out _ hq15
          | with_reducible exact SK.out _ hq14
          | with_reducible exact SK.out _ hq13
          | with_reducible exact SK.out _ hq12
          | with_reducible exact SK.out _ hq11
          | with_reducible exact SK.out _ hq10
          | with_reducible exact SK.out _ hq0
          | fail)
        (first
          | (go_at_call 10
             with_reducible refine (awake3_any _).mono ?_
             rintro e w10 ⟨rfl, hb10⟩
             have hV10 : Below vb.heap.size vb w10 := undrew hb10
             have hq10 : ∀ b, b < vb.heap.size → w10.heap[b]? = vb.heap[b]? := fun b hb => hV10.block b hb)
          | (go_at_call 12
             have hy := hV17
             with_reducible refine (over_any (none5_lies w17 (fun _ => True)) (LP.out.later (bstep hBB.out hV17 hBB.out.size)) _ (Below.refl _ _) NZ.out PZ.out).mono ?_
             rintro e w18 ⟨d18, rfl, hL18, hb18⟩
             rw [E4.out] at hL18
             obtain ⟨f0, f1, f2, f3, f4, f4l, f4c, f5, f5l, f5c, rfl⟩ := hL18.six
             have hV18 : Below vb.heap.size vb w18 := bstep hV17 hb18 hV17.size
             have hq18 : ∀ b, b < vb.heap.size → w18.heap[b]? = vb.heap[b]? := fun b hb => hV18.block b hb)
          | (go_at_call 12
             have hy := hV15
             with_reducible refine (over_any (K1.out.later (bstep FB.out hV15 FB.out.size)) (none5_lies w15 (fun _ => True)) _ (Below.refl _ _) htz NZ.out).mono ?_
             rintro e w16 ⟨d16, rfl, hL16, hb16⟩
             rw [E3.out] at hL16
             obtain ⟨h0, h1, h2, h3, h4, h4l, h4c, h5, h5l, h5c, rfl⟩ := hL16.six
             have hV16 : Below vb.heap.size vb w16 := bstep hV15 hb16 hV15.size
             have hq16 : ∀ b, b < vb.heap.size → w16.heap[b]? = vb.heap[b]? := fun b hb => hV16.block b hb)
          | (go_at_call 12
             have hy := hV13
             with_reducible refine (over_any (LP.out.later (bstep hBB.out hV13 hBB.out.size)) (LP.out.later (bstep hBB.out hV13 hBB.out.size)) _ (Below.refl _ _) PZ.out PZ.out).mono ?_
             rintro e w14 ⟨d14, rfl, hL14, hb14⟩
             rw [E2.out] at hL14
             obtain ⟨i0, i1, i2, i3, i4, i4l, i4c, i5, i5l, i5c, rfl⟩ := hL14.six
             have hV14 : Below vb.heap.size vb w14 := bstep hV13 hb14 hV13.size
             have hq14 : ∀ b, b < vb.heap.size → w14.heap[b]? = vb.heap[b]? := fun b hb => hV14.block b hb)
          | (go_at_call 12
             have hy := hV11
             with_reducible refine (over_any (LP.out.later (bstep hBB.out hV11 hBB.out.size)) hL11 _ (Below.refl _ _) PZ.out DZ.out).mono ?_
             rintro e w12 ⟨d12, rfl, hL12, hb12⟩
             rw [E1.out] at hL12
             obtain ⟨j0, j1, j2, j3, j4, j4l, j4c, j5, j5l, j5c, rfl⟩ := hL12.six
             have hV12 : Below vb.heap.size vb w12 := bstep hV11 hb12 hV11.size
             have hq12 : ∀ b, b < vb.heap.size → w12.heap[b]? = vb.heap[b]? := fun b hb => hV12.block b hb)
          | (go_at_call 11
             have hy := hV18
             with_reducible refine (rSame_any hL18 (LP.out.later (bstep hBB.out hV18 hBB.out.size)) _ (Below.refl _ _)).mono ?_
             rintro e w19 ⟨rfl, hb19⟩
             rw [SP.out]
             have hV19 : Below vb.heap.size vb w19 := bstep hV18 hb19 hV18.size
             have hq19 : ∀ b, b < vb.heap.size → w19.heap[b]? = vb.heap[b]? := fun b hb => hV19.block b hb)
          | (go_at_call 11
             have hy := hV16
             with_reducible refine (rSame_any hL16 (K1.out.later (bstep FB.out hV16 FB.out.size)) _ (Below.refl _ _)).mono ?_
             rintro e w17 ⟨rfl, hb17⟩
             rw [ST.out]
             have hV17 : Below vb.heap.size vb w17 := bstep hV16 hb17 hV16.size
             have hq17 : ∀ b, b < vb.heap.size → w17.heap[b]? = vb.heap[b]? := fun b hb => hV17.block b hb)
          | (go_at_call 11
             have hy := hV14
             with_reducible refine (rSame_any hL14 (LP.out.later (bstep hBB.out hV14 hBB.out.size)) _ (Below.refl _ _)).mono ?_
             rintro e w15 ⟨rfl, hb15⟩
             rw [SP.out]
             have hV15 : Below vb.heap.size vb w15 := bstep hV14 hb15 hV14.size
             have hq15 : ∀ b, b < vb.heap.size → w15.heap[b]? = vb.heap[b]? := fun b hb => hV15.block b hb)
          | (go_at_call 11
             have hy := hV12
             with_reducible refine (rSame_any hL12 (LQ.out.later (bstep hBB.out hV12 hBB.out.size)) _ (Below.refl _ _)).mono ?_
             rintro e w13 ⟨rfl, hb13⟩
             rw [SQ.out]
             have hV13 : Below vb.heap.size vb w13 := bstep hV12 hb13 hV12.size
             have hq13 : ∀ b, b < vb.heap.size → w13.heap[b]? = vb.heap[b]? := fun b hb => hV13.block b hb)
          | (go_at_call 18
             have hy := hV19
             with_reducible refine (diff_any (LP.out.later (bstep hBB.out hV19 hBB.out.size)) (LP.out.later (bstep hBB.out hV19 hBB.out.size)) _ (Below.refl _ _) PZ.out PZ.out).mono ?_
             rintro e w20 ⟨d20, rfl, hL20, hb20⟩
             rw [E5.out] at hL20
             obtain ⟨laE, lcE, maE, mcE, rfl⟩ := mk5_cells (show Lies w20 _ (mk5 []) d20 from hL20)
             have hf := HF w20 laE lcE maE mcE
             have hV20 : Below vb.heap.size vb w20 := bstep hV19 hb20 hV19.size
             have hq20 : ∀ b, b < vb.heap.size → w20.heap[b]? = vb.heap[b]? := fun b hb => hV20.block b hb)
          | (go_at_call 18
             have hy := hV10
             with_reducible refine (diff_any (LQ.out.later (bstep hBB.out hV10 hBB.out.size)) (LP.out.later (bstep hBB.out hV10 hBB.out.size)) _ (Below.refl _ _) PZ.out QZ.out).mono ?_
             rintro e w11 ⟨d11, rfl, hL11, hb11⟩
             obtain ⟨e0, e1, e2, e3, e4, e4l, e4c, e5, e5l, e5c, rfl⟩ := hL11.six
             have hV11 : Below vb.heap.size vb w11 := bstep hV10 hb11 hV10.size
             have hq11 : ∀ b, b < vb.heap.size → w11.heap[b]? = vb.heap[b]? := fun b hb => hV11.block b hb))
      all_goals
        go_wp2_with fail
        go_ret
        exact ⟨rfl, bstep CB.out hV20 CB.out.size⟩

end Go.Proofs.Ytcafackiofncmaa
