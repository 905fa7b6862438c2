/-
  Package funcs' compared; answer of eq, ne, lt and not.
-/
import Derived.Test.YtkonkjaabkmecaaGreatDoorFnEither
import Derived.Test.YtkonkjaabkmecaaGreatDoorFnCall
import Derived.Test.YtkonkjaabkmecaaGreatDoorFnAnsw
import Derived.Test.YtkonkjaabkmecaaGreatDoorSpecsE
import Derived.Test.YtkonkjaabkmecaaGreatDoorCompare
import Derived.Test.YtkonkjaabkmecaaGreatDoorMakes
set_option linter.unusedVariables false
set_option linter.unusedSimpArgs false
namespace Go.Proofs.YtkonkjaabkmecaaGreatDoor
open Go.RowKit

/-- The cells of a truth. -/
abbrev cB (b : Bool) : Array Value := #[.int .i64 1, .bool b, .int .i64 0, .string ⟨#[]⟩, .slice none 0 0, .slice none 0 0]
theorem fcompared_eq (c : Int) (w : World) : Calls Tryz.prog 80 #[.string ⟨#[101, 113]⟩, .int .i64 c] w fun e w' => e = .returned (.bool (c == 0)) ∧ w = w' := by
  go_enter Tryz.func80, Tryz.ntmps80
  go_wp2_with fail
  go_ret
  exact ⟨rfl, rfl⟩
theorem fcompared_ne (c : Int) (w : World) : Calls Tryz.prog 80 #[.string ⟨#[110, 101]⟩, .int .i64 c] w fun e w' => e = .returned (.bool (c != 0)) ∧ w = w' := by
  go_enter Tryz.func80, Tryz.ntmps80
  go_wp2_with fail
  go_ret
  exact ⟨rfl, rfl⟩
theorem fcompared_lt (c : Int) (w : World) : Calls Tryz.prog 80 #[.string ⟨#[108, 116]⟩, .int .i64 c] w fun e w' => e = .returned (.bool (decide (c < 0))) ∧ w = w' := by
  go_enter Tryz.func80, Tryz.ntmps80
  go_wp2_with fail
  go_ret
  exact ⟨rfl, rfl⟩

set_option maxRecDepth 100000 in
set_option maxHeartbeats 2000000 in
theorem fanswer_eq {R1 R2 : Nat → Prop} {t y : T} {a0 : Int} {a1 : Bool} {a2 : Int} {a3 : ByteArray} {a4 : Option Addr} {a4l a4c : Nat} {a5 : Option Addr} {a5l a5c : Nat} {b0 : Int} {b1 : Bool} {b2 : Int} {b3 : ByteArray} {b4 : Option Addr} {b4l b4c : Nat} {b5 : Option Addr} {b5l b5c : Nat} (w : World) (sb : Nat) (h : TwoV w sb (.int .i64 a0) (.bool a1) (.int .i64 a2) (.string a3) (.slice a4 a4l a4c) (.slice a5 a5l a5c) (.int .i64 b0) (.bool b1) (.int .i64 b2) (.string b3) (.slice b4 b4l b4c) (.slice b5 b5l b5c)) (h1 : Lies w R1 t #[.int .i64 a0, .bool a1, .int .i64 a2, .string a3, .slice a4 a4l a4c, .slice a5 a5l a5c]) (h2 : Lies w R2 y #[.int .i64 b0, .bool b1, .int .i64 b2, .string b3, .slice b4 b4l b4c, .slice b5 b5l b5c]) :
    Calls Tryz.prog 36 #[.string ⟨#[101, 113]⟩, .slice (some ⟨sb, 0, none⟩) 2 2] w fun e w' => e = .returned (.tuple #[.agg (cB (T.cmp t y == 0)), .int .i64 0]) ∧ Below w.heap.size w w' := by
  have CP : Hid (∀ w', Below w.heap.size w w' → Calls Tryz.prog 81 #[.agg #[.int .i64 a0, .bool a1, .int .i64 a2, .string a3, .slice a4 a4l a4c, .slice a5 a5l a5c], .agg #[.int .i64 b0, .bool b1, .int .i64 b2, .string b3, .slice b4 b4l b4c, .slice b5 b5l b5c]] w' fun e w2 => e = .returned (.int .i64 (T.cmp t y)) ∧ Below w'.heap.size w' w2) := fun w' hw' => tCompare_any h1 h2 w' hw'
  generalize T.cmp t y = n at CP
  have FC := Lib.hid (fcompared_eq n)
  generalize (n == 0) = r at FC
  obtain ⟨dd, hu, hdd⟩ := Tryz.structV
  have DD := Lib.hid hdd
  have HU := Lib.hid hu
  clear hdd hu
  have hb1 := (Below.refl w.heap.size w).alloc (Nat.le_refl _) (.cells zeroV 27)
  have B1 := Lib.hid (Box6.new w zeroV 27)
  have T1 := Lib.hid (Thaw.new w zeroV 27)
  have es : (w.alloc (.cells zeroV 27)).heap.size = w.heap.size + 1 := by simp
  have H1 := Lib.hid (h.later hb1)
  have HB1 := Lib.hid hb1
  have ES := Lib.hid es
  have BZ := B1
  have TZ := T1
  clear h hb1 es h1 h2
  go_enter Tryz.func36, Tryz.ntmps36
  go_upto_region 1 with fail
  generalize (w.alloc (.cells zeroV 27)) = v at *
  have hvr : w.heap.size < v.heap.size := by rw [ES.out]; omega
  go_upto_region 26 with fail
  obtain ⟨g0, g1, g2, g3, g4, g5, g6, g7, g8, g9, ga, gb⟩ := H1.out
  refine wp_region_specs4 v 10 (fun i => match i with | 0 => 84 | 1 => 85 | 2 => 86 | 3 => 87 | 4 => 88 | 5 => 89 | 6 => 90 | 7 => 91 | 8 => 92 | 9 => 93 | 10 => 5 | _ => 0) (fun i x wx => match i with | 0 => x = .string ⟨#[101, 113]⟩ | 1 => x = .slice (some ⟨sb, 0, none⟩) 2 2 | 2 => x = .pointer (some ⟨sb, 0, none⟩) | 3 => x = .agg #[.int .i64 a0, .bool a1, .int .i64 a2, .string a3, .slice a4 a4l a4c, .slice a5 a5l a5c] | 4 => x = .slice (some ⟨sb, 0, none⟩) 2 2 | 5 => x = .pointer (some ⟨sb, 6, none⟩) | 6 => x = .agg #[.int .i64 b0, .bool b1, .int .i64 b2, .string b3, .slice b4 b4l b4c, .slice b5 b5l b5c] | 7 => x = .int .i64 n | 8 => x = .bool r | 9 => x = .agg #[.int .i64 1, .bool r, .int .i64 0, .string ⟨#[]⟩, .slice none 0 0, .slice none 0 0] | _ => True) (fun i x => match i with | 0 => x = .string ⟨#[101, 113]⟩ | 1 => x = .slice (some ⟨sb, 0, none⟩) 2 2 | 2 => x = .pointer (some ⟨sb, 0, none⟩) | 3 => x = .agg #[.int .i64 a0, .bool a1, .int .i64 a2, .string a3, .slice a4 a4l a4c, .slice a5 a5l a5c] | 4 => x = .slice (some ⟨sb, 0, none⟩) 2 2 | 5 => x = .pointer (some ⟨sb, 6, none⟩) | 6 => x = .agg #[.int .i64 b0, .bool b1, .int .i64 b2, .string b3, .slice b4 b4l b4c, .slice b5 b5l b5c] | 7 => x = .int .i64 n | 8 => x = .bool r | 9 => x = .agg #[.int .i64 1, .bool r, .int .i64 0, .string ⟨#[]⟩, .slice none 0 0, .slice none 0 0] | _ => True) (fun wx => ∃ wb, Below v.heap.size v wb ∧ wx = setRow wb w.heap.size 0 [.int .i64 1, .bool r, .int .i64 0, .string ⟨#[]⟩, .slice none 0 0, .slice none 0 0]) (fun x wx => x = .int .i64 0 ∧ ∃ wb, Below v.heap.size v wb ∧ wx = setRow wb w.heap.size 0 [.int .i64 1, .bool r, .int .i64 0, .string ⟨#[]⟩, .slice none 0 0, .slice none 0 0]) (by kernel_rfl) (by kernel_rfl) ?s1 (Below.refl _ _) ?s2 ?sv ?s3 ?s4 ?s4b ?s5
  case s1 => intro i hi; rcases (by omega : i = 0 ∨ i = 1 ∨ i = 2 ∨ i = 3 ∨ i = 4 ∨ i = 5 ∨ i = 6 ∨ i = 7 ∨ i = 8 ∨ i = 9 ∨ i = 10) with rfl | rfl | rfl | rfl | rfl | rfl | rfl | rfl | rfl | rfl | rfl <;> exact Nat.lt_of_lt_of_le (by decide : _ < 193) (Nat.le_refl 193)
  case s2 =>
    intro i x w1 w2 hb hU
    match i, hU with
    | 7, h => exact h
    | 8, h => exact h
    | 9, h => exact h
    | 0, h | 1, h | 2, h | 3, h | 4, h | 5, h | 6, h => exact h
    | (n + 10), _ => trivial
  case sv =>
    intro i x w1 hi hU
    match i, hU with
    | 7, h => exact h
    | 8, h => exact h
    | 9, h => exact h
    | 0, h | 1, h | 2, h | 3, h | 4, h | 5, h | 6, h => exact h
    | (n + 10), _ => trivial
  case s3 =>
    intro i o ac wb K' ho hi hA hB hdep hK
    have sv0 : ac.tmps[0]?.getD undef = .string ⟨#[101, 113]⟩ := hA.sl (t := 0) (by decide)
    have sv1 : ac.tmps[1]?.getD undef = .slice (some ⟨sb, 0, none⟩) 2 2 := hA.sl (t := 1) (by decide)
    have sv4 : ac.tmps[4]?.getD undef = .pointer (some ⟨w.heap.size, 0, none⟩) := hA.sl (t := 4) (by decide)
    have g0 := cells_frame hB g0
    have g1 := cells_frame hB g1
    have g2 := cells_frame hB g2
    have g3 := cells_frame hB g3
    have g4 := cells_frame hB g4
    have g5 := cells_frame hB g5
    have g6 := cells_frame hB g6
    have g7 := cells_frame hB g7
    have g8 := cells_frame hB g8
    have g9 := cells_frame hB g9
    have ga := cells_frame hB ga
    have gb := cells_frame hB gb
    rcases (by omega : i = 0 ∨ i = 1 ∨ i = 2 ∨ i = 3 ∨ i = 4 ∨ i = 5 ∨ i = 6 ∨ i = 7 ∨ i = 8 ∨ i = 9) with rfl | rfl | rfl | rfl | rfl | rfl | rfl | rfl | rfl | rfl
    · simp at ho
      subst ho
      clear hdep hA
      go_simp
      exact hK _ wb (Below.refl _ _) rfl
    · simp at ho
      subst ho
      clear hdep hA
      go_simp
      exact hK _ wb (Below.refl _ _) rfl
    · simp at ho
      subst ho
      have y1 : ac.tmps[85]?.getD undef = .slice (some ⟨sb, 0, none⟩) 2 2 := hdep { on := 1, ground := .data } (by simp) rfl
      clear hdep hA
      go_simp
      exact hK _ wb (Below.refl _ _) rfl
    · simp at ho
      subst ho
      have y2 : ac.tmps[86]?.getD undef = .pointer (some ⟨sb, 0, none⟩) := hdep { on := 2, ground := .data } (by simp) rfl
      clear hdep hA
      go_simp
      exact hK _ wb (Below.refl _ _) rfl
    · simp at ho
      subst ho
      clear hdep hA
      go_simp
      exact hK _ wb (Below.refl _ _) rfl
    · simp at ho
      subst ho
      have y4 : ac.tmps[88]?.getD undef = .slice (some ⟨sb, 0, none⟩) 2 2 := hdep { on := 4, ground := .data } (by simp) rfl
      clear hdep hA
      go_simp
      exact hK _ wb (Below.refl _ _) rfl
    · simp at ho
      subst ho
      have y5 : ac.tmps[89]?.getD undef = .pointer (some ⟨sb, 6, none⟩) := hdep { on := 5, ground := .data } (by simp) rfl
      clear hdep hA
      go_simp
      exact hK _ wb (Below.refl _ _) rfl
    · simp at ho
      subst ho
      have y3 : ac.tmps[87]?.getD undef = .agg #[.int .i64 a0, .bool a1, .int .i64 a2, .string a3, .slice a4 a4l a4c, .slice a5 a5l a5c] := hdep { on := 3, ground := .data } (by simp) rfl
      have y6 : ac.tmps[90]?.getD undef = .agg #[.int .i64 b0, .bool b1, .int .i64 b2, .string b3, .slice b4 b4l b4c, .slice b5 b5l b5c] := hdep { on := 6, ground := .data } (by simp) rfl
      clear hdep hA
      go_simp
      refine (CP.out wb (bstep HB1.out hB HB1.out.size)).mono ?_
      rintro e w5 ⟨rfl, hb5⟩
      exact hK _ w5 hb5 rfl
    · simp at ho
      subst ho
      have y0 : ac.tmps[84]?.getD undef = .string ⟨#[101, 113]⟩ := hdep { on := 0, ground := .data } (by simp) rfl
      have y7 : ac.tmps[91]?.getD undef = .int .i64 n := hdep { on := 7, ground := .data } (by simp) rfl
      clear hdep hA
      go_simp
      refine (FC.out wb).mono ?_
      rintro e w5 ⟨rfl, rfl⟩
      exact hK _ wb (Below.refl _ _) rfl
    · simp at ho
      subst ho
      have y8 : ac.tmps[92]?.getD undef = .bool r := hdep { on := 8, ground := .data } (by simp) rfl
      clear hdep hA
      go_simp
      refine (tBool_any r wb).mono ?_
      rintro e w5 ⟨rfl, hb5⟩
      exact hK _ w5 hb5 rfl
  case s4 =>
    intro o ac wb K' ho hA hB hU hK
    have sv0 : ac.tmps[0]?.getD undef = .string ⟨#[101, 113]⟩ := hA.sl (t := 0) (by decide)
    have sv1 : ac.tmps[1]?.getD undef = .slice (some ⟨sb, 0, none⟩) 2 2 := hA.sl (t := 1) (by decide)
    have sv4 : ac.tmps[4]?.getD undef = .pointer (some ⟨w.heap.size, 0, none⟩) := hA.sl (t := 4) (by decide)
    have g0 := cells_frame hB g0
    have g1 := cells_frame hB g1
    have g2 := cells_frame hB g2
    have g3 := cells_frame hB g3
    have g4 := cells_frame hB g4
    have g5 := cells_frame hB g5
    have g6 := cells_frame hB g6
    have g7 := cells_frame hB g7
    have g8 := cells_frame hB g8
    have g9 := cells_frame hB g9
    have ga := cells_frame hB ga
    have gb := cells_frame hB gb
    simp at ho
    subst ho
    have y9 : ac.tmps[93]?.getD undef = .agg #[.int .i64 1, .bool r, .int .i64 0, .string ⟨#[]⟩, .slice none 0 0, .slice none 0 0] := hU 9 (by omega)
    clear hU hA
    obtain ⟨c0', c1', c2', c3', c4', c5'⟩ := (BZ.out.later hB (by omega)).six
    obtain ⟨f0, f1, f2, f3, f4, f5⟩ := (TZ.out.later hB (by omega)).six
    go_simp
    exact hK _ ⟨wb, hB, rfl⟩
  case s4b =>
    intro o ac wb K' ho hA hVV hF hK
    have sv0 : ac.tmps[0]?.getD undef = .string ⟨#[101, 113]⟩ := hA.sl (t := 0) (by decide)
    have sv1 : ac.tmps[1]?.getD undef = .slice (some ⟨sb, 0, none⟩) 2 2 := hA.sl (t := 1) (by decide)
    have sv4 : ac.tmps[4]?.getD undef = .pointer (some ⟨w.heap.size, 0, none⟩) := hA.sl (t := 4) (by decide)
    simp at ho
    subst ho
    clear hVV hA
    go_simp
    exact hK _ _ ⟨rfl, hF⟩
  case s5 =>
    intro ac wn hA hVV hF
    have hs : slots 11 (fun i => match i with | 0 => 84 | 1 => 85 | 2 => 86 | 3 => 87 | 4 => 88 | 5 => 89 | 6 => 90 | 7 => 91 | 8 => 92 | 9 => 93 | 10 => 5 | _ => 0) = [84, 85, 86, 87, 88, 89, 90, 91, 92, 93, 5] := by rfl
    rw [hs] at hA
    have hac := hA.act (fun t ht => by
      have h8 : t = 84 ∨ t = 85 ∨ t = 86 ∨ t = 87 ∨ t = 88 ∨ t = 89 ∨ t = 90 ∨ t = 91 ∨ t = 92 ∨ t = 93 ∨ t = 5 := by simpa using ht
      rcases h8 with rfl | rfl | rfl | rfl | rfl | rfl | rfl | rfl | rfl | rfl | rfl <;> exact Nat.lt_of_lt_of_le (by decide : _ < 193) (Nat.le_refl 193))
    rw [List.foldl_cons, List.foldl_cons, List.foldl_cons, List.foldl_cons, List.foldl_cons, List.foldl_cons, List.foldl_cons, List.foldl_cons, List.foldl_cons, List.foldl_cons, List.foldl_cons, List.foldl_nil] at hac
    generalize sl ac 84 = x84 at hac
    generalize sl ac 85 = x85 at hac
    generalize sl ac 86 = x86 at hac
    generalize sl ac 87 = x87 at hac
    generalize sl ac 88 = x88 at hac
    generalize sl ac 89 = x89 at hac
    generalize sl ac 90 = x90 at hac
    generalize sl ac 91 = x91 at hac
    generalize sl ac 92 = x92 at hac
    generalize sl ac 93 = x93 at hac
    generalize sl ac 5 = x5 at hac hF
    clear hA hs hVV
    subst hac
    simp only [Act.put, List.setIfInBounds_toArray, List.set_cons_succ, List.set_cons_zero]
    obtain ⟨rfl, w5, hb5, rfl⟩ := hF
    have HV5 := Lib.hid hb5
    clear hb5
    generalize hW : setRow w5 w.heap.size 0 [.int .i64 1, .bool r, .int .i64 0, .string ⟨#[]⟩, .slice none 0 0, .slice none 0 0] = W5
    have HW := Lib.hid hW.symm
    clear hW
    go_wp2_with fail
    exact ret_cells_tmp w5 w.heap.size [.int .i64 1, .bool r, .int .i64 0, .string ⟨#[]⟩, .slice none 0 0, .slice none 0 0] HW.out Tryz.results36 rfl rfl DD.out HU.out Tryz.sizeV ((BZ.out.later HV5.out (by omega)).cells rfl) ⟨rfl, setRow_below _ (by omega) _ _ _ (bstep HB1.out HV5.out HB1.out.size)⟩

set_option maxRecDepth 100000 in
set_option maxHeartbeats 2000000 in
theorem fanswer_ne {R1 R2 : Nat → Prop} {t y : T} {a0 : Int} {a1 : Bool} {a2 : Int} {a3 : ByteArray} {a4 : Option Addr} {a4l a4c : Nat} {a5 : Option Addr} {a5l a5c : Nat} {b0 : Int} {b1 : Bool} {b2 : Int} {b3 : ByteArray} {b4 : Option Addr} {b4l b4c : Nat} {b5 : Option Addr} {b5l b5c : Nat} (w : World) (sb : Nat) (h : TwoV w sb (.int .i64 a0) (.bool a1) (.int .i64 a2) (.string a3) (.slice a4 a4l a4c) (.slice a5 a5l a5c) (.int .i64 b0) (.bool b1) (.int .i64 b2) (.string b3) (.slice b4 b4l b4c) (.slice b5 b5l b5c)) (h1 : Lies w R1 t #[.int .i64 a0, .bool a1, .int .i64 a2, .string a3, .slice a4 a4l a4c, .slice a5 a5l a5c]) (h2 : Lies w R2 y #[.int .i64 b0, .bool b1, .int .i64 b2, .string b3, .slice b4 b4l b4c, .slice b5 b5l b5c]) :
    Calls Tryz.prog 36 #[.string ⟨#[110, 101]⟩, .slice (some ⟨sb, 0, none⟩) 2 2] w fun e w' => e = .returned (.tuple #[.agg (cB (T.cmp t y != 0)), .int .i64 0]) ∧ Below w.heap.size w w' := by
  have CP : Hid (∀ w', Below w.heap.size w w' → Calls Tryz.prog 81 #[.agg #[.int .i64 a0, .bool a1, .int .i64 a2, .string a3, .slice a4 a4l a4c, .slice a5 a5l a5c], .agg #[.int .i64 b0, .bool b1, .int .i64 b2, .string b3, .slice b4 b4l b4c, .slice b5 b5l b5c]] w' fun e w2 => e = .returned (.int .i64 (T.cmp t y)) ∧ Below w'.heap.size w' w2) := fun w' hw' => tCompare_any h1 h2 w' hw'
  generalize T.cmp t y = n at CP
  have FC := Lib.hid (fcompared_ne n)
  generalize (n != 0) = r at FC
  obtain ⟨dd, hu, hdd⟩ := Tryz.structV
  have DD := Lib.hid hdd
  have HU := Lib.hid hu
  clear hdd hu
  have hb1 := (Below.refl w.heap.size w).alloc (Nat.le_refl _) (.cells zeroV 27)
  have B1 := Lib.hid (Box6.new w zeroV 27)
  have T1 := Lib.hid (Thaw.new w zeroV 27)
  have es : (w.alloc (.cells zeroV 27)).heap.size = w.heap.size + 1 := by simp
  have H1 := Lib.hid (h.later hb1)
  have HB1 := Lib.hid hb1
  have ES := Lib.hid es
  have BZ := B1
  have TZ := T1
  clear h hb1 es h1 h2
  go_enter Tryz.func36, Tryz.ntmps36
  go_upto_region 1 with fail
  generalize (w.alloc (.cells zeroV 27)) = v at *
  have hvr : w.heap.size < v.heap.size := by rw [ES.out]; omega
  go_upto_region 26 with fail
  obtain ⟨g0, g1, g2, g3, g4, g5, g6, g7, g8, g9, ga, gb⟩ := H1.out
  refine wp_region_specs4 v 10 (fun i => match i with | 0 => 84 | 1 => 85 | 2 => 86 | 3 => 87 | 4 => 88 | 5 => 89 | 6 => 90 | 7 => 91 | 8 => 92 | 9 => 93 | 10 => 5 | _ => 0) (fun i x wx => match i with | 0 => x = .string ⟨#[110, 101]⟩ | 1 => x = .slice (some ⟨sb, 0, none⟩) 2 2 | 2 => x = .pointer (some ⟨sb, 0, none⟩) | 3 => x = .agg #[.int .i64 a0, .bool a1, .int .i64 a2, .string a3, .slice a4 a4l a4c, .slice a5 a5l a5c] | 4 => x = .slice (some ⟨sb, 0, none⟩) 2 2 | 5 => x = .pointer (some ⟨sb, 6, none⟩) | 6 => x = .agg #[.int .i64 b0, .bool b1, .int .i64 b2, .string b3, .slice b4 b4l b4c, .slice b5 b5l b5c] | 7 => x = .int .i64 n | 8 => x = .bool r | 9 => x = .agg #[.int .i64 1, .bool r, .int .i64 0, .string ⟨#[]⟩, .slice none 0 0, .slice none 0 0] | _ => True) (fun i x => match i with | 0 => x = .string ⟨#[110, 101]⟩ | 1 => x = .slice (some ⟨sb, 0, none⟩) 2 2 | 2 => x = .pointer (some ⟨sb, 0, none⟩) | 3 => x = .agg #[.int .i64 a0, .bool a1, .int .i64 a2, .string a3, .slice a4 a4l a4c, .slice a5 a5l a5c] | 4 => x = .slice (some ⟨sb, 0, none⟩) 2 2 | 5 => x = .pointer (some ⟨sb, 6, none⟩) | 6 => x = .agg #[.int .i64 b0, .bool b1, .int .i64 b2, .string b3, .slice b4 b4l b4c, .slice b5 b5l b5c] | 7 => x = .int .i64 n | 8 => x = .bool r | 9 => x = .agg #[.int .i64 1, .bool r, .int .i64 0, .string ⟨#[]⟩, .slice none 0 0, .slice none 0 0] | _ => True) (fun wx => ∃ wb, Below v.heap.size v wb ∧ wx = setRow wb w.heap.size 0 [.int .i64 1, .bool r, .int .i64 0, .string ⟨#[]⟩, .slice none 0 0, .slice none 0 0]) (fun x wx => x = .int .i64 0 ∧ ∃ wb, Below v.heap.size v wb ∧ wx = setRow wb w.heap.size 0 [.int .i64 1, .bool r, .int .i64 0, .string ⟨#[]⟩, .slice none 0 0, .slice none 0 0]) (by kernel_rfl) (by kernel_rfl) ?s1 (Below.refl _ _) ?s2 ?sv ?s3 ?s4 ?s4b ?s5
  case s1 => intro i hi; rcases (by omega : i = 0 ∨ i = 1 ∨ i = 2 ∨ i = 3 ∨ i = 4 ∨ i = 5 ∨ i = 6 ∨ i = 7 ∨ i = 8 ∨ i = 9 ∨ i = 10) with rfl | rfl | rfl | rfl | rfl | rfl | rfl | rfl | rfl | rfl | rfl <;> exact Nat.lt_of_lt_of_le (by decide : _ < 193) (Nat.le_refl 193)
  case s2 =>
    intro i x w1 w2 hb hU
    match i, hU with
    | 7, h => exact h
    | 8, h => exact h
    | 9, h => exact h
    | 0, h | 1, h | 2, h | 3, h | 4, h | 5, h | 6, h => exact h
    | (n + 10), _ => trivial
  case sv =>
    intro i x w1 hi hU
    match i, hU with
    | 7, h => exact h
    | 8, h => exact h
    | 9, h => exact h
    | 0, h | 1, h | 2, h | 3, h | 4, h | 5, h | 6, h => exact h
    | (n + 10), _ => trivial
  case s3 =>
    intro i o ac wb K' ho hi hA hB hdep hK
    have sv0 : ac.tmps[0]?.getD undef = .string ⟨#[110, 101]⟩ := hA.sl (t := 0) (by decide)
    have sv1 : ac.tmps[1]?.getD undef = .slice (some ⟨sb, 0, none⟩) 2 2 := hA.sl (t := 1) (by decide)
    have sv4 : ac.tmps[4]?.getD undef = .pointer (some ⟨w.heap.size, 0, none⟩) := hA.sl (t := 4) (by decide)
    have g0 := cells_frame hB g0
    have g1 := cells_frame hB g1
    have g2 := cells_frame hB g2
    have g3 := cells_frame hB g3
    have g4 := cells_frame hB g4
    have g5 := cells_frame hB g5
    have g6 := cells_frame hB g6
    have g7 := cells_frame hB g7
    have g8 := cells_frame hB g8
    have g9 := cells_frame hB g9
    have ga := cells_frame hB ga
    have gb := cells_frame hB gb
    rcases (by omega : i = 0 ∨ i = 1 ∨ i = 2 ∨ i = 3 ∨ i = 4 ∨ i = 5 ∨ i = 6 ∨ i = 7 ∨ i = 8 ∨ i = 9) with rfl | rfl | rfl | rfl | rfl | rfl | rfl | rfl | rfl | rfl
    · simp at ho
      subst ho
      clear hdep hA
      go_simp
      exact hK _ wb (Below.refl _ _) rfl
    · simp at ho
      subst ho
      clear hdep hA
      go_simp
      exact hK _ wb (Below.refl _ _) rfl
    · simp at ho
      subst ho
      have y1 : ac.tmps[85]?.getD undef = .slice (some ⟨sb, 0, none⟩) 2 2 := hdep { on := 1, ground := .data } (by simp) rfl
      clear hdep hA
      go_simp
      exact hK _ wb (Below.refl _ _) rfl
    · simp at ho
      subst ho
      have y2 : ac.tmps[86]?.getD undef = .pointer (some ⟨sb, 0, none⟩) := hdep { on := 2, ground := .data } (by simp) rfl
      clear hdep hA
      go_simp
      exact hK _ wb (Below.refl _ _) rfl
    · simp at ho
      subst ho
      clear hdep hA
      go_simp
      exact hK _ wb (Below.refl _ _) rfl
    · simp at ho
      subst ho
      have y4 : ac.tmps[88]?.getD undef = .slice (some ⟨sb, 0, none⟩) 2 2 := hdep { on := 4, ground := .data } (by simp) rfl
      clear hdep hA
      go_simp
      exact hK _ wb (Below.refl _ _) rfl
    · simp at ho
      subst ho
      have y5 : ac.tmps[89]?.getD undef = .pointer (some ⟨sb, 6, none⟩) := hdep { on := 5, ground := .data } (by simp) rfl
      clear hdep hA
      go_simp
      exact hK _ wb (Below.refl _ _) rfl
    · simp at ho
      subst ho
      have y3 : ac.tmps[87]?.getD undef = .agg #[.int .i64 a0, .bool a1, .int .i64 a2, .string a3, .slice a4 a4l a4c, .slice a5 a5l a5c] := hdep { on := 3, ground := .data } (by simp) rfl
      have y6 : ac.tmps[90]?.getD undef = .agg #[.int .i64 b0, .bool b1, .int .i64 b2, .string b3, .slice b4 b4l b4c, .slice b5 b5l b5c] := hdep { on := 6, ground := .data } (by simp) rfl
      clear hdep hA
      go_simp
      refine (CP.out wb (bstep HB1.out hB HB1.out.size)).mono ?_
      rintro e w5 ⟨rfl, hb5⟩
      exact hK _ w5 hb5 rfl
    · simp at ho
      subst ho
      have y0 : ac.tmps[84]?.getD undef = .string ⟨#[110, 101]⟩ := hdep { on := 0, ground := .data } (by simp) rfl
      have y7 : ac.tmps[91]?.getD undef = .int .i64 n := hdep { on := 7, ground := .data } (by simp) rfl
      clear hdep hA
      go_simp
      refine (FC.out wb).mono ?_
      rintro e w5 ⟨rfl, rfl⟩
      exact hK _ wb (Below.refl _ _) rfl
    · simp at ho
      subst ho
      have y8 : ac.tmps[92]?.getD undef = .bool r := hdep { on := 8, ground := .data } (by simp) rfl
      clear hdep hA
      go_simp
      refine (tBool_any r wb).mono ?_
      rintro e w5 ⟨rfl, hb5⟩
      exact hK _ w5 hb5 rfl
  case s4 =>
    intro o ac wb K' ho hA hB hU hK
    have sv0 : ac.tmps[0]?.getD undef = .string ⟨#[110, 101]⟩ := hA.sl (t := 0) (by decide)
    have sv1 : ac.tmps[1]?.getD undef = .slice (some ⟨sb, 0, none⟩) 2 2 := hA.sl (t := 1) (by decide)
    have sv4 : ac.tmps[4]?.getD undef = .pointer (some ⟨w.heap.size, 0, none⟩) := hA.sl (t := 4) (by decide)
    have g0 := cells_frame hB g0
    have g1 := cells_frame hB g1
    have g2 := cells_frame hB g2
    have g3 := cells_frame hB g3
    have g4 := cells_frame hB g4
    have g5 := cells_frame hB g5
    have g6 := cells_frame hB g6
    have g7 := cells_frame hB g7
    have g8 := cells_frame hB g8
    have g9 := cells_frame hB g9
    have ga := cells_frame hB ga
    have gb := cells_frame hB gb
    simp at ho
    subst ho
    have y9 : ac.tmps[93]?.getD undef = .agg #[.int .i64 1, .bool r, .int .i64 0, .string ⟨#[]⟩, .slice none 0 0, .slice none 0 0] := hU 9 (by omega)
    clear hU hA
    obtain ⟨c0', c1', c2', c3', c4', c5'⟩ := (BZ.out.later hB (by omega)).six
    obtain ⟨f0, f1, f2, f3, f4, f5⟩ := (TZ.out.later hB (by omega)).six
    go_simp
    exact hK _ ⟨wb, hB, rfl⟩
  case s4b =>
    intro o ac wb K' ho hA hVV hF hK
    have sv0 : ac.tmps[0]?.getD undef = .string ⟨#[110, 101]⟩ := hA.sl (t := 0) (by decide)
    have sv1 : ac.tmps[1]?.getD undef = .slice (some ⟨sb, 0, none⟩) 2 2 := hA.sl (t := 1) (by decide)
    have sv4 : ac.tmps[4]?.getD undef = .pointer (some ⟨w.heap.size, 0, none⟩) := hA.sl (t := 4) (by decide)
    simp at ho
    subst ho
    clear hVV hA
    go_simp
    exact hK _ _ ⟨rfl, hF⟩
  case s5 =>
    intro ac wn hA hVV hF
    have hs : slots 11 (fun i => match i with | 0 => 84 | 1 => 85 | 2 => 86 | 3 => 87 | 4 => 88 | 5 => 89 | 6 => 90 | 7 => 91 | 8 => 92 | 9 => 93 | 10 => 5 | _ => 0) = [84, 85, 86, 87, 88, 89, 90, 91, 92, 93, 5] := by rfl
    rw [hs] at hA
    have hac := hA.act (fun t ht => by
      have h8 : t = 84 ∨ t = 85 ∨ t = 86 ∨ t = 87 ∨ t = 88 ∨ t = 89 ∨ t = 90 ∨ t = 91 ∨ t = 92 ∨ t = 93 ∨ t = 5 := by simpa using ht
      rcases h8 with rfl | rfl | rfl | rfl | rfl | rfl | rfl | rfl | rfl | rfl | rfl <;> exact Nat.lt_of_lt_of_le (by decide : _ < 193) (Nat.le_refl 193))
    rw [List.foldl_cons, List.foldl_cons, List.foldl_cons, List.foldl_cons, List.foldl_cons, List.foldl_cons, List.foldl_cons, List.foldl_cons, List.foldl_cons, List.foldl_cons, List.foldl_cons, List.foldl_nil] at hac
    generalize sl ac 84 = x84 at hac
    generalize sl ac 85 = x85 at hac
    generalize sl ac 86 = x86 at hac
    generalize sl ac 87 = x87 at hac
    generalize sl ac 88 = x88 at hac
    generalize sl ac 89 = x89 at hac
    generalize sl ac 90 = x90 at hac
    generalize sl ac 91 = x91 at hac
    generalize sl ac 92 = x92 at hac
    generalize sl ac 93 = x93 at hac
    generalize sl ac 5 = x5 at hac hF
    clear hA hs hVV
    subst hac
    simp only [Act.put, List.setIfInBounds_toArray, List.set_cons_succ, List.set_cons_zero]
    obtain ⟨rfl, w5, hb5, rfl⟩ := hF
    have HV5 := Lib.hid hb5
    clear hb5
    generalize hW : setRow w5 w.heap.size 0 [.int .i64 1, .bool r, .int .i64 0, .string ⟨#[]⟩, .slice none 0 0, .slice none 0 0] = W5
    have HW := Lib.hid hW.symm
    clear hW
    go_wp2_with fail
    exact ret_cells_tmp w5 w.heap.size [.int .i64 1, .bool r, .int .i64 0, .string ⟨#[]⟩, .slice none 0 0, .slice none 0 0] HW.out Tryz.results36 rfl rfl DD.out HU.out Tryz.sizeV ((BZ.out.later HV5.out (by omega)).cells rfl) ⟨rfl, setRow_below _ (by omega) _ _ _ (bstep HB1.out HV5.out HB1.out.size)⟩

set_option maxRecDepth 100000 in
set_option maxHeartbeats 2000000 in
theorem fanswer_lt {R1 R2 : Nat → Prop} {t y : T} {a0 : Int} {a1 : Bool} {a2 : Int} {a3 : ByteArray} {a4 : Option Addr} {a4l a4c : Nat} {a5 : Option Addr} {a5l a5c : Nat} {b0 : Int} {b1 : Bool} {b2 : Int} {b3 : ByteArray} {b4 : Option Addr} {b4l b4c : Nat} {b5 : Option Addr} {b5l b5c : Nat} (w : World) (sb : Nat) (h : TwoV w sb (.int .i64 a0) (.bool a1) (.int .i64 a2) (.string a3) (.slice a4 a4l a4c) (.slice a5 a5l a5c) (.int .i64 b0) (.bool b1) (.int .i64 b2) (.string b3) (.slice b4 b4l b4c) (.slice b5 b5l b5c)) (h1 : Lies w R1 t #[.int .i64 a0, .bool a1, .int .i64 a2, .string a3, .slice a4 a4l a4c, .slice a5 a5l a5c]) (h2 : Lies w R2 y #[.int .i64 b0, .bool b1, .int .i64 b2, .string b3, .slice b4 b4l b4c, .slice b5 b5l b5c]) :
    Calls Tryz.prog 36 #[.string ⟨#[108, 116]⟩, .slice (some ⟨sb, 0, none⟩) 2 2] w fun e w' => e = .returned (.tuple #[.agg (cB (decide (T.cmp t y < 0))), .int .i64 0]) ∧ Below w.heap.size w w' := by
  have CP : Hid (∀ w', Below w.heap.size w w' → Calls Tryz.prog 81 #[.agg #[.int .i64 a0, .bool a1, .int .i64 a2, .string a3, .slice a4 a4l a4c, .slice a5 a5l a5c], .agg #[.int .i64 b0, .bool b1, .int .i64 b2, .string b3, .slice b4 b4l b4c, .slice b5 b5l b5c]] w' fun e w2 => e = .returned (.int .i64 (T.cmp t y)) ∧ Below w'.heap.size w' w2) := fun w' hw' => tCompare_any h1 h2 w' hw'
  generalize T.cmp t y = n at CP
  have FC := Lib.hid (fcompared_lt n)
  generalize (decide (n < 0)) = r at FC
  obtain ⟨dd, hu, hdd⟩ := Tryz.structV
  have DD := Lib.hid hdd
  have HU := Lib.hid hu
  clear hdd hu
  have hb1 := (Below.refl w.heap.size w).alloc (Nat.le_refl _) (.cells zeroV 27)
  have B1 := Lib.hid (Box6.new w zeroV 27)
  have T1 := Lib.hid (Thaw.new w zeroV 27)
  have es : (w.alloc (.cells zeroV 27)).heap.size = w.heap.size + 1 := by simp
  have H1 := Lib.hid (h.later hb1)
  have HB1 := Lib.hid hb1
  have ES := Lib.hid es
  have BZ := B1
  have TZ := T1
  clear h hb1 es h1 h2
  go_enter Tryz.func36, Tryz.ntmps36
  go_upto_region 1 with fail
  generalize (w.alloc (.cells zeroV 27)) = v at *
  have hvr : w.heap.size < v.heap.size := by rw [ES.out]; omega
  go_upto_region 26 with fail
  obtain ⟨g0, g1, g2, g3, g4, g5, g6, g7, g8, g9, ga, gb⟩ := H1.out
  refine wp_region_specs4 v 10 (fun i => match i with | 0 => 84 | 1 => 85 | 2 => 86 | 3 => 87 | 4 => 88 | 5 => 89 | 6 => 90 | 7 => 91 | 8 => 92 | 9 => 93 | 10 => 5 | _ => 0) (fun i x wx => match i with | 0 => x = .string ⟨#[108, 116]⟩ | 1 => x = .slice (some ⟨sb, 0, none⟩) 2 2 | 2 => x = .pointer (some ⟨sb, 0, none⟩) | 3 => x = .agg #[.int .i64 a0, .bool a1, .int .i64 a2, .string a3, .slice a4 a4l a4c, .slice a5 a5l a5c] | 4 => x = .slice (some ⟨sb, 0, none⟩) 2 2 | 5 => x = .pointer (some ⟨sb, 6, none⟩) | 6 => x = .agg #[.int .i64 b0, .bool b1, .int .i64 b2, .string b3, .slice b4 b4l b4c, .slice b5 b5l b5c] | 7 => x = .int .i64 n | 8 => x = .bool r | 9 => x = .agg #[.int .i64 1, .bool r, .int .i64 0, .string ⟨#[]⟩, .slice none 0 0, .slice none 0 0] | _ => True) (fun i x => match i with | 0 => x = .string ⟨#[108, 116]⟩ | 1 => x = .slice (some ⟨sb, 0, none⟩) 2 2 | 2 => x = .pointer (some ⟨sb, 0, none⟩) | 3 => x = .agg #[.int .i64 a0, .bool a1, .int .i64 a2, .string a3, .slice a4 a4l a4c, .slice a5 a5l a5c] | 4 => x = .slice (some ⟨sb, 0, none⟩) 2 2 | 5 => x = .pointer (some ⟨sb, 6, none⟩) | 6 => x = .agg #[.int .i64 b0, .bool b1, .int .i64 b2, .string b3, .slice b4 b4l b4c, .slice b5 b5l b5c] | 7 => x = .int .i64 n | 8 => x = .bool r | 9 => x = .agg #[.int .i64 1, .bool r, .int .i64 0, .string ⟨#[]⟩, .slice none 0 0, .slice none 0 0] | _ => True) (fun wx => ∃ wb, Below v.heap.size v wb ∧ wx = setRow wb w.heap.size 0 [.int .i64 1, .bool r, .int .i64 0, .string ⟨#[]⟩, .slice none 0 0, .slice none 0 0]) (fun x wx => x = .int .i64 0 ∧ ∃ wb, Below v.heap.size v wb ∧ wx = setRow wb w.heap.size 0 [.int .i64 1, .bool r, .int .i64 0, .string ⟨#[]⟩, .slice none 0 0, .slice none 0 0]) (by kernel_rfl) (by kernel_rfl) ?s1 (Below.refl _ _) ?s2 ?sv ?s3 ?s4 ?s4b ?s5
  case s1 => intro i hi; rcases (by omega : i = 0 ∨ i = 1 ∨ i = 2 ∨ i = 3 ∨ i = 4 ∨ i = 5 ∨ i = 6 ∨ i = 7 ∨ i = 8 ∨ i = 9 ∨ i = 10) with rfl | rfl | rfl | rfl | rfl | rfl | rfl | rfl | rfl | rfl | rfl <;> exact Nat.lt_of_lt_of_le (by decide : _ < 193) (Nat.le_refl 193)
  case s2 =>
    intro i x w1 w2 hb hU
    match i, hU with
    | 7, h => exact h
    | 8, h => exact h
    | 9, h => exact h
    | 0, h | 1, h | 2, h | 3, h | 4, h | 5, h | 6, h => exact h
    | (n + 10), _ => trivial
  case sv =>
    intro i x w1 hi hU
    match i, hU with
    | 7, h => exact h
    | 8, h => exact h
    | 9, h => exact h
    | 0, h | 1, h | 2, h | 3, h | 4, h | 5, h | 6, h => exact h
    | (n + 10), _ => trivial
  case s3 =>
    intro i o ac wb K' ho hi hA hB hdep hK
    have sv0 : ac.tmps[0]?.getD undef = .string ⟨#[108, 116]⟩ := hA.sl (t := 0) (by decide)
    have sv1 : ac.tmps[1]?.getD undef = .slice (some ⟨sb, 0, none⟩) 2 2 := hA.sl (t := 1) (by decide)
    have sv4 : ac.tmps[4]?.getD undef = .pointer (some ⟨w.heap.size, 0, none⟩) := hA.sl (t := 4) (by decide)
    have g0 := cells_frame hB g0
    have g1 := cells_frame hB g1
    have g2 := cells_frame hB g2
    have g3 := cells_frame hB g3
    have g4 := cells_frame hB g4
    have g5 := cells_frame hB g5
    have g6 := cells_frame hB g6
    have g7 := cells_frame hB g7
    have g8 := cells_frame hB g8
    have g9 := cells_frame hB g9
    have ga := cells_frame hB ga
    have gb := cells_frame hB gb
    rcases (by omega : i = 0 ∨ i = 1 ∨ i = 2 ∨ i = 3 ∨ i = 4 ∨ i = 5 ∨ i = 6 ∨ i = 7 ∨ i = 8 ∨ i = 9) with rfl | rfl | rfl | rfl | rfl | rfl | rfl | rfl | rfl | rfl
    · simp at ho
      subst ho
      clear hdep hA
      go_simp
      exact hK _ wb (Below.refl _ _) rfl
    · simp at ho
      subst ho
      clear hdep hA
      go_simp
      exact hK _ wb (Below.refl _ _) rfl
    · simp at ho
      subst ho
      have y1 : ac.tmps[85]?.getD undef = .slice (some ⟨sb, 0, none⟩) 2 2 := hdep { on := 1, ground := .data } (by simp) rfl
      clear hdep hA
      go_simp
      exact hK _ wb (Below.refl _ _) rfl
    · simp at ho
      subst ho
      have y2 : ac.tmps[86]?.getD undef = .pointer (some ⟨sb, 0, none⟩) := hdep { on := 2, ground := .data } (by simp) rfl
      clear hdep hA
      go_simp
      exact hK _ wb (Below.refl _ _) rfl
    · simp at ho
      subst ho
      clear hdep hA
      go_simp
      exact hK _ wb (Below.refl _ _) rfl
    · simp at ho
      subst ho
      have y4 : ac.tmps[88]?.getD undef = .slice (some ⟨sb, 0, none⟩) 2 2 := hdep { on := 4, ground := .data } (by simp) rfl
      clear hdep hA
      go_simp
      exact hK _ wb (Below.refl _ _) rfl
    · simp at ho
      subst ho
      have y5 : ac.tmps[89]?.getD undef = .pointer (some ⟨sb, 6, none⟩) := hdep { on := 5, ground := .data } (by simp) rfl
      clear hdep hA
      go_simp
      exact hK _ wb (Below.refl _ _) rfl
    · simp at ho
      subst ho
      have y3 : ac.tmps[87]?.getD undef = .agg #[.int .i64 a0, .bool a1, .int .i64 a2, .string a3, .slice a4 a4l a4c, .slice a5 a5l a5c] := hdep { on := 3, ground := .data } (by simp) rfl
      have y6 : ac.tmps[90]?.getD undef = .agg #[.int .i64 b0, .bool b1, .int .i64 b2, .string b3, .slice b4 b4l b4c, .slice b5 b5l b5c] := hdep { on := 6, ground := .data } (by simp) rfl
      clear hdep hA
      go_simp
      refine (CP.out wb (bstep HB1.out hB HB1.out.size)).mono ?_
      rintro e w5 ⟨rfl, hb5⟩
      exact hK _ w5 hb5 rfl
    · simp at ho
      subst ho
      have y0 : ac.tmps[84]?.getD undef = .string ⟨#[108, 116]⟩ := hdep { on := 0, ground := .data } (by simp) rfl
      have y7 : ac.tmps[91]?.getD undef = .int .i64 n := hdep { on := 7, ground := .data } (by simp) rfl
      clear hdep hA
      go_simp
      refine (FC.out wb).mono ?_
      rintro e w5 ⟨rfl, rfl⟩
      exact hK _ wb (Below.refl _ _) rfl
    · simp at ho
      subst ho
      have y8 : ac.tmps[92]?.getD undef = .bool r := hdep { on := 8, ground := .data } (by simp) rfl
      clear hdep hA
      go_simp
      refine (tBool_any r wb).mono ?_
      rintro e w5 ⟨rfl, hb5⟩
      exact hK _ w5 hb5 rfl
  case s4 =>
    intro o ac wb K' ho hA hB hU hK
    have sv0 : ac.tmps[0]?.getD undef = .string ⟨#[108, 116]⟩ := hA.sl (t := 0) (by decide)
    have sv1 : ac.tmps[1]?.getD undef = .slice (some ⟨sb, 0, none⟩) 2 2 := hA.sl (t := 1) (by decide)
    have sv4 : ac.tmps[4]?.getD undef = .pointer (some ⟨w.heap.size, 0, none⟩) := hA.sl (t := 4) (by decide)
    have g0 := cells_frame hB g0
    have g1 := cells_frame hB g1
    have g2 := cells_frame hB g2
    have g3 := cells_frame hB g3
    have g4 := cells_frame hB g4
    have g5 := cells_frame hB g5
    have g6 := cells_frame hB g6
    have g7 := cells_frame hB g7
    have g8 := cells_frame hB g8
    have g9 := cells_frame hB g9
    have ga := cells_frame hB ga
    have gb := cells_frame hB gb
    simp at ho
    subst ho
    have y9 : ac.tmps[93]?.getD undef = .agg #[.int .i64 1, .bool r, .int .i64 0, .string ⟨#[]⟩, .slice none 0 0, .slice none 0 0] := hU 9 (by omega)
    clear hU hA
    obtain ⟨c0', c1', c2', c3', c4', c5'⟩ := (BZ.out.later hB (by omega)).six
    obtain ⟨f0, f1, f2, f3, f4, f5⟩ := (TZ.out.later hB (by omega)).six
    go_simp
    exact hK _ ⟨wb, hB, rfl⟩
  case s4b =>
    intro o ac wb K' ho hA hVV hF hK
    have sv0 : ac.tmps[0]?.getD undef = .string ⟨#[108, 116]⟩ := hA.sl (t := 0) (by decide)
    have sv1 : ac.tmps[1]?.getD undef = .slice (some ⟨sb, 0, none⟩) 2 2 := hA.sl (t := 1) (by decide)
    have sv4 : ac.tmps[4]?.getD undef = .pointer (some ⟨w.heap.size, 0, none⟩) := hA.sl (t := 4) (by decide)
    simp at ho
    subst ho
    clear hVV hA
    go_simp
    exact hK _ _ ⟨rfl, hF⟩
  case s5 =>
    intro ac wn hA hVV hF
    have hs : slots 11 (fun i => match i with | 0 => 84 | 1 => 85 | 2 => 86 | 3 => 87 | 4 => 88 | 5 => 89 | 6 => 90 | 7 => 91 | 8 => 92 | 9 => 93 | 10 => 5 | _ => 0) = [84, 85, 86, 87, 88, 89, 90, 91, 92, 93, 5] := by rfl
    rw [hs] at hA
    have hac := hA.act (fun t ht => by
      have h8 : t = 84 ∨ t = 85 ∨ t = 86 ∨ t = 87 ∨ t = 88 ∨ t = 89 ∨ t = 90 ∨ t = 91 ∨ t = 92 ∨ t = 93 ∨ t = 5 := by simpa using ht
      rcases h8 with rfl | rfl | rfl | rfl | rfl | rfl | rfl | rfl | rfl | rfl | rfl <;> exact Nat.lt_of_lt_of_le (by decide : _ < 193) (Nat.le_refl 193))
    rw [List.foldl_cons, List.foldl_cons, List.foldl_cons, List.foldl_cons, List.foldl_cons, List.foldl_cons, List.foldl_cons, List.foldl_cons, List.foldl_cons, List.foldl_cons, List.foldl_cons, List.foldl_nil] at hac
    generalize sl ac 84 = x84 at hac
    generalize sl ac 85 = x85 at hac
    generalize sl ac 86 = x86 at hac
    generalize sl ac 87 = x87 at hac
    generalize sl ac 88 = x88 at hac
    generalize sl ac 89 = x89 at hac
    generalize sl ac 90 = x90 at hac
    generalize sl ac 91 = x91 at hac
    generalize sl ac 92 = x92 at hac
    generalize sl ac 93 = x93 at hac
    generalize sl ac 5 = x5 at hac hF
    clear hA hs hVV
    subst hac
    simp only [Act.put, List.setIfInBounds_toArray, List.set_cons_succ, List.set_cons_zero]
    obtain ⟨rfl, w5, hb5, rfl⟩ := hF
    have HV5 := Lib.hid hb5
    clear hb5
    generalize hW : setRow w5 w.heap.size 0 [.int .i64 1, .bool r, .int .i64 0, .string ⟨#[]⟩, .slice none 0 0, .slice none 0 0] = W5
    have HW := Lib.hid hW.symm
    clear hW
    go_wp2_with fail
    exact ret_cells_tmp w5 w.heap.size [.int .i64 1, .bool r, .int .i64 0, .string ⟨#[]⟩, .slice none 0 0, .slice none 0 0] HW.out Tryz.results36 rfl rfl DD.out HU.out Tryz.sizeV ((BZ.out.later HV5.out (by omega)).cells rfl) ⟨rfl, setRow_below _ (by omega) _ _ _ (bstep HB1.out HV5.out HB1.out.size)⟩

set_option maxRecDepth 100000 in
set_option maxHeartbeats 2000000 in
theorem fanswer_not {R1 : Nat → Prop} {t : T} {a0 : Int} {a1 : Bool} {a2 : Int} {a3 : ByteArray} {a4 : Option Addr} {a4l a4c : Nat} {a5 : Option Addr} {a5l a5c : Nat} (w : World) (sb : Nat) (h : Box6 w sb #[.int .i64 a0, .bool a1, .int .i64 a2, .string a3, .slice a4 a4l a4c, .slice a5 a5l a5c]) (hsb : sb < w.heap.size) (h1 : Lies w R1 t #[.int .i64 a0, .bool a1, .int .i64 a2, .string a3, .slice a4 a4l a4c, .slice a5 a5l a5c]) :
    Calls Tryz.prog 36 #[.string ⟨#[110, 111, 116]⟩, .slice (some ⟨sb, 0, none⟩) 1 1] w fun e w' => e = .returned (.tuple #[.agg (cB (!trT t)), .int .i64 0]) ∧ Below w.heap.size w w' := by
  have hct : countsB a0 a1 a2 a3 a4l a5l = trT t := by cases h1; rfl
  have TR : Hid (∀ w', Calls Tryz.prog 31 #[.agg #[.int .i64 a0, .bool a1, .int .i64 a2, .string a3, .slice a4 a4l a4c, .slice a5 a5l a5c]] w' fun e w2 => e = .returned (.bool (trT t)) ∧ Below w'.heap.size w' w2) := fun w' => by
    have h := tTruth_any a0 a1 a2 a3 a4 a4l a4c a5 a5l a5c w'
    rw [hct] at h
    exact h
  generalize trT t = r at TR
  clear hct h1
  obtain ⟨dd, hu, hdd⟩ := Tryz.structV
  have DD := Lib.hid hdd
  have HU := Lib.hid hu
  clear hdd hu
  have hb1 := (Below.refl w.heap.size w).alloc (Nat.le_refl _) (.cells zeroV 27)
  have B1 := Lib.hid (Box6.new w zeroV 27)
  have T1 := Lib.hid (Thaw.new w zeroV 27)
  have es : (w.alloc (.cells zeroV 27)).heap.size = w.heap.size + 1 := by simp
  have H1 := Lib.hid (h.later hb1 hsb)
  have HB1 := Lib.hid hb1
  have ES := Lib.hid es
  have BZ := B1
  have TZ := T1
  clear h hb1 es
  go_enter Tryz.func36, Tryz.ntmps36
  go_upto_region 1 with fail
  generalize (w.alloc (.cells zeroV 27)) = v at *
  have hvr : w.heap.size < v.heap.size := by rw [ES.out]; omega
  obtain ⟨g0, g1, g2, g3, g4, g5⟩ := H1.out.six
  go_upto_region 28 with fail
  go_wp2_with (go_at_call 31; refine (TR.out v).mono ?_; rintro e w1 ⟨rfl, hb⟩; have HB2 := Lib.hid hb; clear hb)
  all_goals
    refine (tBool_any _ _).mono ?_
    rintro e w5 ⟨rfl, hb⟩
    have hb6 := bstep HB2.out hb HB2.out.size
    have HV5 := Lib.hid hb6
    clear hb hb6
    obtain ⟨c0', c1', c2', c3', c4', c5'⟩ := (BZ.out.later HV5.out (by omega)).six
    obtain ⟨f0, f1, f2, f3, f4, f5⟩ := (TZ.out.later HV5.out (by omega)).six
    go_wp2_with fail
    exact ret_cells_tmp w5 w.heap.size [.int .i64 1, .bool (!r), .int .i64 0, .string ⟨#[]⟩, .slice none 0 0, .slice none 0 0] rfl Tryz.results36 rfl rfl DD.out HU.out Tryz.sizeV ((BZ.out.later HV5.out (by omega)).cells rfl) ⟨rfl, setRow_below _ (by omega) _ _ _ (bstep HB1.out HV5.out HB1.out.size)⟩

end Go.Proofs.YtkonkjaabkmecaaGreatDoor
