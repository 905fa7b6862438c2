/-
  Package funcs' answer of indent, nindent and print.
-/
import Derived.Test.YtclkinokmpcigaaGreatDoorFnInd
set_option linter.unusedVariables false
set_option linter.unusedSimpArgs false
namespace Go.Proofs.YtclkinokmpcigaaGreatDoor
open Go.RowKit


set_option maxRecDepth 100000 in
set_option maxHeartbeats 2000000 in
theorem fanswer_indent (s : ByteArray) (hs : s.size ≤ 65536) (w : World) (sb : Nat) (h : TwoV w sb (.int .i64 2) (.bool false) (.int .i64 0) (.string ⟨#[]⟩) (.slice none 0 0) (.slice none 0 0) (.int .i64 3) (.bool false) (.int .i64 0) (.string s) (.slice none 0 0) (.slice none 0 0)) :
    Calls Tryz.prog 14 #[.string ⟨#[105, 110, 100, 101, 110, 116]⟩, .slice (some ⟨sb, 0, none⟩) 2 2] w fun e w' => e = .returned (.tuple #[.agg (cS s), .int .i64 0]) ∧ Below w.heap.size w w' := by
  have JO : Hid (∀ w', Calls Tryz.prog 24 #[.string ⟨#[105, 110, 100, 101, 110, 116]⟩, .agg (cI 0), .agg (cS s)] w' fun e w2 => e = .returned (.tuple #[.agg (cS s), .int .i64 0]) ∧ Below w'.heap.size w' w2) := fun w' => find_indent s hs w'
  obtain ⟨dd, hu, hdd⟩ := Tryz.structV
  have DD := Lib.hid hdd
  have HU := Lib.hid hu
  clear hdd hu
  have hb1 := (Below.refl w.heap.size w).alloc (Nat.le_refl _) (.cells zeroV 27)
  have B1 := Lib.hid (Box6.new w zeroV 27)
  have T1 := Lib.hid (Thaw.new w zeroV 27)
  have es : (w.alloc (.cells zeroV 27)).heap.size = w.heap.size + 1 := by simp
  have H1 := Lib.hid (h.later hb1)
  have HB1 := Lib.hid hb1
  have ES := Lib.hid es
  have BZ := B1
  have TZ := T1
  clear h hb1 es hs
  go_enter Tryz.func14, Tryz.ntmps14
  go_upto_region 1 with fail
  generalize (w.alloc (.cells zeroV 27)) = v at *
  have hvr : w.heap.size < v.heap.size := by rw [ES.out]; omega
  go_upto_region 16 with fail
  obtain ⟨g0, g1, g2, g3, g4, g5, g6, g7, g8, g9, ga, gb⟩ := H1.out
  refine wp_region_specs4 v 10 (fun i => match i with | 0 => 48 | 1 => 49 | 2 => 50 | 3 => 51 | 4 => 52 | 5 => 53 | 6 => 54 | 7 => 55 | 8 => 56 | 9 => 57 | 10 => 5 | _ => 0) (fun i x wx => match i with | 0 => x = .string ⟨#[105, 110, 100, 101, 110, 116]⟩ | 1 => x = .slice (some ⟨sb, 0, none⟩) 2 2 | 2 => x = .pointer (some ⟨sb, 0, none⟩) | 3 => x = .agg #[.int .i64 2, .bool false, .int .i64 0, .string ⟨#[]⟩, .slice none 0 0, .slice none 0 0] | 4 => x = .slice (some ⟨sb, 0, none⟩) 2 2 | 5 => x = .pointer (some ⟨sb, 6, none⟩) | 6 => x = .agg #[.int .i64 3, .bool false, .int .i64 0, .string s, .slice none 0 0, .slice none 0 0] | 7 => x = .tuple #[.agg #[.int .i64 3, .bool false, .int .i64 0, .string s, .slice none 0 0, .slice none 0 0], .int .i64 0] | 8 => x = .agg #[.int .i64 3, .bool false, .int .i64 0, .string s, .slice none 0 0, .slice none 0 0] | 9 => x = .int .i64 0 | _ => True) (fun i x => match i with | 0 => x = .string ⟨#[105, 110, 100, 101, 110, 116]⟩ | 1 => x = .slice (some ⟨sb, 0, none⟩) 2 2 | 2 => x = .pointer (some ⟨sb, 0, none⟩) | 3 => x = .agg #[.int .i64 2, .bool false, .int .i64 0, .string ⟨#[]⟩, .slice none 0 0, .slice none 0 0] | 4 => x = .slice (some ⟨sb, 0, none⟩) 2 2 | 5 => x = .pointer (some ⟨sb, 6, none⟩) | 6 => x = .agg #[.int .i64 3, .bool false, .int .i64 0, .string s, .slice none 0 0, .slice none 0 0] | 7 => x = .tuple #[.agg #[.int .i64 3, .bool false, .int .i64 0, .string s, .slice none 0 0, .slice none 0 0], .int .i64 0] | 8 => x = .agg #[.int .i64 3, .bool false, .int .i64 0, .string s, .slice none 0 0, .slice none 0 0] | 9 => x = .int .i64 0 | _ => True) (fun wx => ∃ wb, Below v.heap.size v wb ∧ wx = setRow wb w.heap.size 0 [.int .i64 3, .bool false, .int .i64 0, .string s, .slice none 0 0, .slice none 0 0]) (fun x wx => x = .int .i64 0 ∧ ∃ wb, Below v.heap.size v wb ∧ wx = setRow wb w.heap.size 0 [.int .i64 3, .bool false, .int .i64 0, .string s, .slice none 0 0, .slice none 0 0]) (by kernel_rfl) (by kernel_rfl) ?s1 (Below.refl _ _) ?s2 ?sv ?s3 ?s4 ?s4b ?s5
  case s1 => intro i hi; rcases (by omega : i = 0 ∨ i = 1 ∨ i = 2 ∨ i = 3 ∨ i = 4 ∨ i = 5 ∨ i = 6 ∨ i = 7 ∨ i = 8 ∨ i = 9 ∨ i = 10) with rfl | rfl | rfl | rfl | rfl | rfl | rfl | rfl | rfl | rfl | rfl <;> exact Nat.lt_of_lt_of_le (by decide : _ < 193) (Nat.le_refl 193)
  case s2 =>
    intro i x w1 w2 hb hU
    match i, hU with
    | 7, h => exact h
    | 0, h | 1, h | 2, h | 3, h | 4, h | 5, h | 6, h | 8, h | 9, h => exact h
    | (n + 10), _ => trivial
  case sv =>
    intro i x w1 hi hU
    match i, hU with
    | 7, h => exact h
    | 0, h | 1, h | 2, h | 3, h | 4, h | 5, h | 6, h | 8, h | 9, h => exact h
    | (n + 10), _ => trivial
  case s3 =>
    intro i o ac wb K' ho hi hA hB hdep hK
    have sv0 : ac.tmps[0]?.getD undef = .string ⟨#[105, 110, 100, 101, 110, 116]⟩ := hA.sl (t := 0) (by decide)
    have sv1 : ac.tmps[1]?.getD undef = .slice (some ⟨sb, 0, none⟩) 2 2 := hA.sl (t := 1) (by decide)
    have sv4 : ac.tmps[4]?.getD undef = .pointer (some ⟨w.heap.size, 0, none⟩) := hA.sl (t := 4) (by decide)
    have g0 := cells_frame hB g0
    have g1 := cells_frame hB g1
    have g2 := cells_frame hB g2
    have g3 := cells_frame hB g3
    have g4 := cells_frame hB g4
    have g5 := cells_frame hB g5
    have g6 := cells_frame hB g6
    have g7 := cells_frame hB g7
    have g8 := cells_frame hB g8
    have g9 := cells_frame hB g9
    have ga := cells_frame hB ga
    have gb := cells_frame hB gb
    rcases (by omega : i = 0 ∨ i = 1 ∨ i = 2 ∨ i = 3 ∨ i = 4 ∨ i = 5 ∨ i = 6 ∨ i = 7 ∨ i = 8 ∨ i = 9) with rfl | rfl | rfl | rfl | rfl | rfl | rfl | rfl | rfl | rfl
    · simp at ho
      subst ho
      clear hdep hA
      go_simp
      exact hK _ wb (Below.refl _ _) rfl
    · simp at ho
      subst ho
      clear hdep hA
      go_simp
      exact hK _ wb (Below.refl _ _) rfl
    · simp at ho
      subst ho
      have y1 : ac.tmps[49]?.getD undef = .slice (some ⟨sb, 0, none⟩) 2 2 := hdep { on := 1, ground := .data } (by simp) rfl
      clear hdep hA
      go_simp
      exact hK _ wb (Below.refl _ _) rfl
    · simp at ho
      subst ho
      have y2 : ac.tmps[50]?.getD undef = .pointer (some ⟨sb, 0, none⟩) := hdep { on := 2, ground := .data } (by simp) rfl
      clear hdep hA
      go_simp
      exact hK _ wb (Below.refl _ _) rfl
    · simp at ho
      subst ho
      clear hdep hA
      go_simp
      exact hK _ wb (Below.refl _ _) rfl
    · simp at ho
      subst ho
      have y4 : ac.tmps[52]?.getD undef = .slice (some ⟨sb, 0, none⟩) 2 2 := hdep { on := 4, ground := .data } (by simp) rfl
      clear hdep hA
      go_simp
      exact hK _ wb (Below.refl _ _) rfl
    · simp at ho
      subst ho
      have y5 : ac.tmps[53]?.getD undef = .pointer (some ⟨sb, 6, none⟩) := hdep { on := 5, ground := .data } (by simp) rfl
      clear hdep hA
      go_simp
      exact hK _ wb (Below.refl _ _) rfl
    · simp at ho
      subst ho
      have y0 : ac.tmps[48]?.getD undef = .string ⟨#[105, 110, 100, 101, 110, 116]⟩ := hdep { on := 0, ground := .data } (by simp) rfl
      have y3 : ac.tmps[51]?.getD undef = .agg #[.int .i64 2, .bool false, .int .i64 0, .string ⟨#[]⟩, .slice none 0 0, .slice none 0 0] := hdep { on := 3, ground := .data } (by simp) rfl
      have y6 : ac.tmps[54]?.getD undef = .agg #[.int .i64 3, .bool false, .int .i64 0, .string s, .slice none 0 0, .slice none 0 0] := hdep { on := 6, ground := .data } (by simp) rfl
      clear hdep hA
      go_simp
      refine (JO.out wb).mono ?_
      rintro e w5 ⟨rfl, hb5⟩
      exact hK _ w5 hb5 rfl
    · simp at ho
      subst ho
      have y7 : ac.tmps[55]?.getD undef = .tuple #[.agg #[.int .i64 3, .bool false, .int .i64 0, .string s, .slice none 0 0, .slice none 0 0], .int .i64 0] := hdep { on := 7, ground := .data } (by simp) rfl
      clear hdep hA
      go_simp
      exact hK _ wb (Below.refl _ _) rfl
    · simp at ho
      subst ho
      have y7 : ac.tmps[55]?.getD undef = .tuple #[.agg #[.int .i64 3, .bool false, .int .i64 0, .string s, .slice none 0 0, .slice none 0 0], .int .i64 0] := hdep { on := 7, ground := .data } (by simp) rfl
      clear hdep hA
      go_simp
      exact hK _ wb (Below.refl _ _) rfl
  case s4 =>
    intro o ac wb K' ho hA hB hU hK
    have sv0 : ac.tmps[0]?.getD undef = .string ⟨#[105, 110, 100, 101, 110, 116]⟩ := hA.sl (t := 0) (by decide)
    have sv1 : ac.tmps[1]?.getD undef = .slice (some ⟨sb, 0, none⟩) 2 2 := hA.sl (t := 1) (by decide)
    have sv4 : ac.tmps[4]?.getD undef = .pointer (some ⟨w.heap.size, 0, none⟩) := hA.sl (t := 4) (by decide)
    have g0 := cells_frame hB g0
    have g1 := cells_frame hB g1
    have g2 := cells_frame hB g2
    have g3 := cells_frame hB g3
    have g4 := cells_frame hB g4
    have g5 := cells_frame hB g5
    have g6 := cells_frame hB g6
    have g7 := cells_frame hB g7
    have g8 := cells_frame hB g8
    have g9 := cells_frame hB g9
    have ga := cells_frame hB ga
    have gb := cells_frame hB gb
    simp at ho
    subst ho
    have y8 : ac.tmps[56]?.getD undef = .agg #[.int .i64 3, .bool false, .int .i64 0, .string s, .slice none 0 0, .slice none 0 0] := hU 8 (by omega)
    clear hU hA
    obtain ⟨c0', c1', c2', c3', c4', c5'⟩ := (BZ.out.later hB (by omega)).six
    obtain ⟨f0, f1, f2, f3, f4, f5⟩ := (TZ.out.later hB (by omega)).six
    go_simp
    exact hK _ ⟨wb, hB, rfl⟩
  case s4b =>
    intro o ac wb K' ho hA hVV hF hK
    have sv0 : ac.tmps[0]?.getD undef = .string ⟨#[105, 110, 100, 101, 110, 116]⟩ := hA.sl (t := 0) (by decide)
    have sv1 : ac.tmps[1]?.getD undef = .slice (some ⟨sb, 0, none⟩) 2 2 := hA.sl (t := 1) (by decide)
    have sv4 : ac.tmps[4]?.getD undef = .pointer (some ⟨w.heap.size, 0, none⟩) := hA.sl (t := 4) (by decide)
    simp at ho
    subst ho
    have y9 : ac.tmps[57]?.getD undef = .int .i64 0 := hVV 9 (by omega)
    clear hVV hA
    go_simp
    exact hK _ _ ⟨rfl, hF⟩
  case s5 =>
    intro ac wn hA hVV hF
    have hs : slots 11 (fun i => match i with | 0 => 48 | 1 => 49 | 2 => 50 | 3 => 51 | 4 => 52 | 5 => 53 | 6 => 54 | 7 => 55 | 8 => 56 | 9 => 57 | 10 => 5 | _ => 0) = [48, 49, 50, 51, 52, 53, 54, 55, 56, 57, 5] := by rfl
    rw [hs] at hA
    have hac := hA.act (fun t ht => by
      have h8 : t = 48 ∨ t = 49 ∨ t = 50 ∨ t = 51 ∨ t = 52 ∨ t = 53 ∨ t = 54 ∨ t = 55 ∨ t = 56 ∨ t = 57 ∨ t = 5 := by simpa using ht
      rcases h8 with rfl | rfl | rfl | rfl | rfl | rfl | rfl | rfl | rfl | rfl | rfl <;> exact Nat.lt_of_lt_of_le (by decide : _ < 193) (Nat.le_refl 193))
    rw [List.foldl_cons, List.foldl_cons, List.foldl_cons, List.foldl_cons, List.foldl_cons, List.foldl_cons, List.foldl_cons, List.foldl_cons, List.foldl_cons, List.foldl_cons, List.foldl_cons, List.foldl_nil] at hac
    generalize sl ac 48 = x48 at hac
    generalize sl ac 49 = x49 at hac
    generalize sl ac 50 = x50 at hac
    generalize sl ac 51 = x51 at hac
    generalize sl ac 52 = x52 at hac
    generalize sl ac 53 = x53 at hac
    generalize sl ac 54 = x54 at hac
    generalize sl ac 55 = x55 at hac
    generalize sl ac 56 = x56 at hac
    generalize sl ac 57 = x57 at hac
    generalize sl ac 5 = x5 at hac hF
    clear hA hs hVV
    subst hac
    simp only [Act.put, List.setIfInBounds_toArray, List.set_cons_succ, List.set_cons_zero]
    obtain ⟨rfl, w5, hb5, rfl⟩ := hF
    have HV5 := Lib.hid hb5
    clear hb5
    generalize hW : setRow w5 w.heap.size 0 [.int .i64 3, .bool false, .int .i64 0, .string s, .slice none 0 0, .slice none 0 0] = W5
    have HW := Lib.hid hW.symm
    clear hW
    go_wp2_with fail
    exact ret_cells_tmp w5 w.heap.size [.int .i64 3, .bool false, .int .i64 0, .string s, .slice none 0 0, .slice none 0 0] HW.out Tryz.results14 rfl rfl DD.out HU.out Tryz.sizeV ((BZ.out.later HV5.out (by omega)).cells rfl) ⟨rfl, setRow_below _ (by omega) _ _ _ (bstep HB1.out HV5.out HB1.out.size)⟩

set_option maxRecDepth 100000 in
set_option maxHeartbeats 2000000 in
theorem fanswer_nindent (s : ByteArray) (hs : s.size ≤ 65536) (w : World) (sb : Nat) (h : TwoV w sb (.int .i64 2) (.bool false) (.int .i64 0) (.string ⟨#[]⟩) (.slice none 0 0) (.slice none 0 0) (.int .i64 3) (.bool false) (.int .i64 0) (.string s) (.slice none 0 0) (.slice none 0 0)) :
    Calls Tryz.prog 14 #[.string ⟨#[110, 105, 110, 100, 101, 110, 116]⟩, .slice (some ⟨sb, 0, none⟩) 2 2] w fun e w' => e = .returned (.tuple #[.agg (cS (⟨#[10]⟩ ++ s)), .int .i64 0]) ∧ Below w.heap.size w w' := by
  have JO : Hid (∀ w', Calls Tryz.prog 24 #[.string ⟨#[110, 105, 110, 100, 101, 110, 116]⟩, .agg (cI 0), .agg (cS s)] w' fun e w2 => e = .returned (.tuple #[.agg (cS (⟨#[10]⟩ ++ s)), .int .i64 0]) ∧ Below w'.heap.size w' w2) := fun w' => find_nindent s hs w'
  obtain ⟨r, hr⟩ : ∃ r : ByteArray, r = (⟨#[10]⟩ ++ s) := ⟨_, rfl⟩
  rw [← hr] at JO ⊢
  clear hr
  obtain ⟨dd, hu, hdd⟩ := Tryz.structV
  have DD := Lib.hid hdd
  have HU := Lib.hid hu
  clear hdd hu
  have hb1 := (Below.refl w.heap.size w).alloc (Nat.le_refl _) (.cells zeroV 27)
  have B1 := Lib.hid (Box6.new w zeroV 27)
  have T1 := Lib.hid (Thaw.new w zeroV 27)
  have es : (w.alloc (.cells zeroV 27)).heap.size = w.heap.size + 1 := by simp
  have H1 := Lib.hid (h.later hb1)
  have HB1 := Lib.hid hb1
  have ES := Lib.hid es
  have BZ := B1
  have TZ := T1
  clear h hb1 es hs
  go_enter Tryz.func14, Tryz.ntmps14
  go_upto_region 1 with fail
  generalize (w.alloc (.cells zeroV 27)) = v at *
  have hvr : w.heap.size < v.heap.size := by rw [ES.out]; omega
  go_upto_region 16 with fail
  obtain ⟨g0, g1, g2, g3, g4, g5, g6, g7, g8, g9, ga, gb⟩ := H1.out
  refine wp_region_specs4 v 10 (fun i => match i with | 0 => 48 | 1 => 49 | 2 => 50 | 3 => 51 | 4 => 52 | 5 => 53 | 6 => 54 | 7 => 55 | 8 => 56 | 9 => 57 | 10 => 5 | _ => 0) (fun i x wx => match i with | 0 => x = .string ⟨#[110, 105, 110, 100, 101, 110, 116]⟩ | 1 => x = .slice (some ⟨sb, 0, none⟩) 2 2 | 2 => x = .pointer (some ⟨sb, 0, none⟩) | 3 => x = .agg #[.int .i64 2, .bool false, .int .i64 0, .string ⟨#[]⟩, .slice none 0 0, .slice none 0 0] | 4 => x = .slice (some ⟨sb, 0, none⟩) 2 2 | 5 => x = .pointer (some ⟨sb, 6, none⟩) | 6 => x = .agg #[.int .i64 3, .bool false, .int .i64 0, .string s, .slice none 0 0, .slice none 0 0] | 7 => x = .tuple #[.agg #[.int .i64 3, .bool false, .int .i64 0, .string r, .slice none 0 0, .slice none 0 0], .int .i64 0] | 8 => x = .agg #[.int .i64 3, .bool false, .int .i64 0, .string r, .slice none 0 0, .slice none 0 0] | 9 => x = .int .i64 0 | _ => True) (fun i x => match i with | 0 => x = .string ⟨#[110, 105, 110, 100, 101, 110, 116]⟩ | 1 => x = .slice (some ⟨sb, 0, none⟩) 2 2 | 2 => x = .pointer (some ⟨sb, 0, none⟩) | 3 => x = .agg #[.int .i64 2, .bool false, .int .i64 0, .string ⟨#[]⟩, .slice none 0 0, .slice none 0 0] | 4 => x = .slice (some ⟨sb, 0, none⟩) 2 2 | 5 => x = .pointer (some ⟨sb, 6, none⟩) | 6 => x = .agg #[.int .i64 3, .bool false, .int .i64 0, .string s, .slice none 0 0, .slice none 0 0] | 7 => x = .tuple #[.agg #[.int .i64 3, .bool false, .int .i64 0, .string r, .slice none 0 0, .slice none 0 0], .int .i64 0] | 8 => x = .agg #[.int .i64 3, .bool false, .int .i64 0, .string r, .slice none 0 0, .slice none 0 0] | 9 => x = .int .i64 0 | _ => True) (fun wx => ∃ wb, Below v.heap.size v wb ∧ wx = setRow wb w.heap.size 0 [.int .i64 3, .bool false, .int .i64 0, .string r, .slice none 0 0, .slice none 0 0]) (fun x wx => x = .int .i64 0 ∧ ∃ wb, Below v.heap.size v wb ∧ wx = setRow wb w.heap.size 0 [.int .i64 3, .bool false, .int .i64 0, .string r, .slice none 0 0, .slice none 0 0]) (by kernel_rfl) (by kernel_rfl) ?s1 (Below.refl _ _) ?s2 ?sv ?s3 ?s4 ?s4b ?s5
  case s1 => intro i hi; rcases (by omega : i = 0 ∨ i = 1 ∨ i = 2 ∨ i = 3 ∨ i = 4 ∨ i = 5 ∨ i = 6 ∨ i = 7 ∨ i = 8 ∨ i = 9 ∨ i = 10) with rfl | rfl | rfl | rfl | rfl | rfl | rfl | rfl | rfl | rfl | rfl <;> exact Nat.lt_of_lt_of_le (by decide : _ < 193) (Nat.le_refl 193)
  case s2 =>
    intro i x w1 w2 hb hU
    match i, hU with
    | 7, h => exact h
    | 0, h | 1, h | 2, h | 3, h | 4, h | 5, h | 6, h | 8, h | 9, h => exact h
    | (n + 10), _ => trivial
  case sv =>
    intro i x w1 hi hU
    match i, hU with
    | 7, h => exact h
    | 0, h | 1, h | 2, h | 3, h | 4, h | 5, h | 6, h | 8, h | 9, h => exact h
    | (n + 10), _ => trivial
  case s3 =>
    intro i o ac wb K' ho hi hA hB hdep hK
    have sv0 : ac.tmps[0]?.getD undef = .string ⟨#[110, 105, 110, 100, 101, 110, 116]⟩ := hA.sl (t := 0) (by decide)
    have sv1 : ac.tmps[1]?.getD undef = .slice (some ⟨sb, 0, none⟩) 2 2 := hA.sl (t := 1) (by decide)
    have sv4 : ac.tmps[4]?.getD undef = .pointer (some ⟨w.heap.size, 0, none⟩) := hA.sl (t := 4) (by decide)
    have g0 := cells_frame hB g0
    have g1 := cells_frame hB g1
    have g2 := cells_frame hB g2
    have g3 := cells_frame hB g3
    have g4 := cells_frame hB g4
    have g5 := cells_frame hB g5
    have g6 := cells_frame hB g6
    have g7 := cells_frame hB g7
    have g8 := cells_frame hB g8
    have g9 := cells_frame hB g9
    have ga := cells_frame hB ga
    have gb := cells_frame hB gb
    rcases (by omega : i = 0 ∨ i = 1 ∨ i = 2 ∨ i = 3 ∨ i = 4 ∨ i = 5 ∨ i = 6 ∨ i = 7 ∨ i = 8 ∨ i = 9) with rfl | rfl | rfl | rfl | rfl | rfl | rfl | rfl | rfl | rfl
    · simp at ho
      subst ho
      clear hdep hA
      go_simp
      exact hK _ wb (Below.refl _ _) rfl
    · simp at ho
      subst ho
      clear hdep hA
      go_simp
      exact hK _ wb (Below.refl _ _) rfl
    · simp at ho
      subst ho
      have y1 : ac.tmps[49]?.getD undef = .slice (some ⟨sb, 0, none⟩) 2 2 := hdep { on := 1, ground := .data } (by simp) rfl
      clear hdep hA
      go_simp
      exact hK _ wb (Below.refl _ _) rfl
    · simp at ho
      subst ho
      have y2 : ac.tmps[50]?.getD undef = .pointer (some ⟨sb, 0, none⟩) := hdep { on := 2, ground := .data } (by simp) rfl
      clear hdep hA
      go_simp
      exact hK _ wb (Below.refl _ _) rfl
    · simp at ho
      subst ho
      clear hdep hA
      go_simp
      exact hK _ wb (Below.refl _ _) rfl
    · simp at ho
      subst ho
      have y4 : ac.tmps[52]?.getD undef = .slice (some ⟨sb, 0, none⟩) 2 2 := hdep { on := 4, ground := .data } (by simp) rfl
      clear hdep hA
      go_simp
      exact hK _ wb (Below.refl _ _) rfl
    · simp at ho
      subst ho
      have y5 : ac.tmps[53]?.getD undef = .pointer (some ⟨sb, 6, none⟩) := hdep { on := 5, ground := .data } (by simp) rfl
      clear hdep hA
      go_simp
      exact hK _ wb (Below.refl _ _) rfl
    · simp at ho
      subst ho
      have y0 : ac.tmps[48]?.getD undef = .string ⟨#[110, 105, 110, 100, 101, 110, 116]⟩ := hdep { on := 0, ground := .data } (by simp) rfl
      have y3 : ac.tmps[51]?.getD undef = .agg #[.int .i64 2, .bool false, .int .i64 0, .string ⟨#[]⟩, .slice none 0 0, .slice none 0 0] := hdep { on := 3, ground := .data } (by simp) rfl
      have y6 : ac.tmps[54]?.getD undef = .agg #[.int .i64 3, .bool false, .int .i64 0, .string s, .slice none 0 0, .slice none 0 0] := hdep { on := 6, ground := .data } (by simp) rfl
      clear hdep hA
      go_simp
      refine (JO.out wb).mono ?_
      rintro e w5 ⟨rfl, hb5⟩
      exact hK _ w5 hb5 rfl
    · simp at ho
      subst ho
      have y7 : ac.tmps[55]?.getD undef = .tuple #[.agg #[.int .i64 3, .bool false, .int .i64 0, .string r, .slice none 0 0, .slice none 0 0], .int .i64 0] := hdep { on := 7, ground := .data } (by simp) rfl
      clear hdep hA
      go_simp
      exact hK _ wb (Below.refl _ _) rfl
    · simp at ho
      subst ho
      have y7 : ac.tmps[55]?.getD undef = .tuple #[.agg #[.int .i64 3, .bool false, .int .i64 0, .string r, .slice none 0 0, .slice none 0 0], .int .i64 0] := hdep { on := 7, ground := .data } (by simp) rfl
      clear hdep hA
      go_simp
      exact hK _ wb (Below.refl _ _) rfl
  case s4 =>
    intro o ac wb K' ho hA hB hU hK
    have sv0 : ac.tmps[0]?.getD undef = .string ⟨#[110, 105, 110, 100, 101, 110, 116]⟩ := hA.sl (t := 0) (by decide)
    have sv1 : ac.tmps[1]?.getD undef = .slice (some ⟨sb, 0, none⟩) 2 2 := hA.sl (t := 1) (by decide)
    have sv4 : ac.tmps[4]?.getD undef = .pointer (some ⟨w.heap.size, 0, none⟩) := hA.sl (t := 4) (by decide)
    have g0 := cells_frame hB g0
    have g1 := cells_frame hB g1
    have g2 := cells_frame hB g2
    have g3 := cells_frame hB g3
    have g4 := cells_frame hB g4
    have g5 := cells_frame hB g5
    have g6 := cells_frame hB g6
    have g7 := cells_frame hB g7
    have g8 := cells_frame hB g8
    have g9 := cells_frame hB g9
    have ga := cells_frame hB ga
    have gb := cells_frame hB gb
    simp at ho
    subst ho
    have y8 : ac.tmps[56]?.getD undef = .agg #[.int .i64 3, .bool false, .int .i64 0, .string r, .slice none 0 0, .slice none 0 0] := hU 8 (by omega)
    clear hU hA
    obtain ⟨c0', c1', c2', c3', c4', c5'⟩ := (BZ.out.later hB (by omega)).six
    obtain ⟨f0, f1, f2, f3, f4, f5⟩ := (TZ.out.later hB (by omega)).six
    go_simp
    exact hK _ ⟨wb, hB, rfl⟩
  case s4b =>
    intro o ac wb K' ho hA hVV hF hK
    have sv0 : ac.tmps[0]?.getD undef = .string ⟨#[110, 105, 110, 100, 101, 110, 116]⟩ := hA.sl (t := 0) (by decide)
    have sv1 : ac.tmps[1]?.getD undef = .slice (some ⟨sb, 0, none⟩) 2 2 := hA.sl (t := 1) (by decide)
    have sv4 : ac.tmps[4]?.getD undef = .pointer (some ⟨w.heap.size, 0, none⟩) := hA.sl (t := 4) (by decide)
    simp at ho
    subst ho
    have y9 : ac.tmps[57]?.getD undef = .int .i64 0 := hVV 9 (by omega)
    clear hVV hA
    go_simp
    exact hK _ _ ⟨rfl, hF⟩
  case s5 =>
    intro ac wn hA hVV hF
    have hs : slots 11 (fun i => match i with | 0 => 48 | 1 => 49 | 2 => 50 | 3 => 51 | 4 => 52 | 5 => 53 | 6 => 54 | 7 => 55 | 8 => 56 | 9 => 57 | 10 => 5 | _ => 0) = [48, 49, 50, 51, 52, 53, 54, 55, 56, 57, 5] := by rfl
    rw [hs] at hA
    have hac := hA.act (fun t ht => by
      have h8 : t = 48 ∨ t = 49 ∨ t = 50 ∨ t = 51 ∨ t = 52 ∨ t = 53 ∨ t = 54 ∨ t = 55 ∨ t = 56 ∨ t = 57 ∨ t = 5 := by simpa using ht
      rcases h8 with rfl | rfl | rfl | rfl | rfl | rfl | rfl | rfl | rfl | rfl | rfl <;> exact Nat.lt_of_lt_of_le (by decide : _ < 193) (Nat.le_refl 193))
    rw [List.foldl_cons, List.foldl_cons, List.foldl_cons, List.foldl_cons, List.foldl_cons, List.foldl_cons, List.foldl_cons, List.foldl_cons, List.foldl_cons, List.foldl_cons, List.foldl_cons, List.foldl_nil] at hac
    generalize sl ac 48 = x48 at hac
    generalize sl ac 49 = x49 at hac
    generalize sl ac 50 = x50 at hac
    generalize sl ac 51 = x51 at hac
    generalize sl ac 52 = x52 at hac
    generalize sl ac 53 = x53 at hac
    generalize sl ac 54 = x54 at hac
    generalize sl ac 55 = x55 at hac
    generalize sl ac 56 = x56 at hac
    generalize sl ac 57 = x57 at hac
    generalize sl ac 5 = x5 at hac hF
    clear hA hs hVV
    subst hac
    simp only [Act.put, List.setIfInBounds_toArray, List.set_cons_succ, List.set_cons_zero]
    obtain ⟨rfl, w5, hb5, rfl⟩ := hF
    have HV5 := Lib.hid hb5
    clear hb5
    generalize hW : setRow w5 w.heap.size 0 [.int .i64 3, .bool false, .int .i64 0, .string r, .slice none 0 0, .slice none 0 0] = W5
    have HW := Lib.hid hW.symm
    clear hW
    go_wp2_with fail
    exact ret_cells_tmp w5 w.heap.size [.int .i64 3, .bool false, .int .i64 0, .string r, .slice none 0 0, .slice none 0 0] HW.out Tryz.results14 rfl rfl DD.out HU.out Tryz.sizeV ((BZ.out.later HV5.out (by omega)).cells rfl) ⟨rfl, setRow_below _ (by omega) _ _ _ (bstep HB1.out HV5.out HB1.out.size)⟩

set_option maxRecDepth 100000 in
set_option maxHeartbeats 2000000 in
theorem fanswer_print {w0 : World} {R : Nat → Prop} {ts : List T} {sa : Option Addr} {sc : Nat} {cl : Nat → Array Value} (hS : SliceV w0 R ts sa sc cl) (tx : Nat → ByteArray) (hT : ∀ i (h : i < ts.length), SaidOK ts[i] (tx i)) (hlen : (glueL [] tx ts.length).length ≤ 65536) (w : World) (h : Below w0.heap.size w0 w) :
    Calls Tryz.prog 14 #[.string ⟨#[112, 114, 105, 110, 116]⟩, .slice sa ts.length sc] w fun e w' => e = .returned (.tuple #[.agg (cS ⟨(glueL [] tx ts.length).toArray⟩), .int .i64 0]) ∧ Below w.heap.size w w' := by
  have JO := Lib.hid (fun w' (hw' : Below w.heap.size w w') => fglued_any hS ⟨#[]⟩ tx hT hlen (Nat.zero_le _) w' (bstep h hw' h.size))
  obtain ⟨r, hr⟩ : ∃ r : ByteArray, r = ⟨(glueL [] tx ts.length).toArray⟩ := ⟨_, rfl⟩
  have e0 : (⟨(glueL (⟨#[]⟩ : ByteArray).data.toList tx ts.length).toArray⟩ : ByteArray) = r := hr.symm
  rw [e0] at JO
  rw [← hr]
  clear hr e0 hT hlen hS
  obtain ⟨dd, hu, hdd⟩ := Tryz.structV
  have DD := Lib.hid hdd
  have HU := Lib.hid hu
  clear hdd hu
  have hb1 := (Below.refl w.heap.size w).alloc (Nat.le_refl _) (.cells zeroV 27)
  have B1 := Lib.hid (Box6.new w zeroV 27)
  have T1 := Lib.hid (Thaw.new w zeroV 27)
  have es : (w.alloc (.cells zeroV 27)).heap.size = w.heap.size + 1 := by simp
  have HB1 := Lib.hid hb1
  have ES := Lib.hid es
  have BZ := B1
  have TZ := T1
  clear h hb1 es
  go_enter Tryz.func14, Tryz.ntmps14
  go_upto_region 1 with fail
  generalize (w.alloc (.cells zeroV 27)) = v at *
  have hvr : w.heap.size < v.heap.size := by rw [ES.out]; omega
  go_upto_region 9 with fail
  go_wp2_with (go_at_call 21; refine (JO.out v HB1.out).mono ?_; rintro e w5 ⟨rfl, hb⟩; have HV5 := Lib.hid hb; clear hb; obtain ⟨c0', c1', c2', c3', c4', c5'⟩ := (BZ.out.later HV5.out (by omega)).six; obtain ⟨f0, f1, f2, f3, f4, f5⟩ := (TZ.out.later HV5.out (by omega)).six)
  exact ret_cells_tmp w5 w.heap.size [.int .i64 3, .bool false, .int .i64 0, .string r, .slice none 0 0, .slice none 0 0] rfl Tryz.results14 rfl rfl DD.out HU.out Tryz.sizeV ((BZ.out.later HV5.out (by omega)).cells rfl) ⟨rfl, setRow_below _ (by omega) _ _ _ (bstep HB1.out HV5.out HB1.out.size)⟩

end Go.Proofs.YtclkinokmpcigaaGreatDoor
