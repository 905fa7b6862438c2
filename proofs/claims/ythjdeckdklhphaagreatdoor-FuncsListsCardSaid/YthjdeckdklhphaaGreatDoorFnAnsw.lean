/-
  Package funcs' answer: two whole numbers reckoned with.
-/
import Derived.Test.YthjdeckdklhphaaGreatDoorFnLaidM
import Derived.Test.YthjdeckdklhphaaGreatDoorFnCallEM
import Derived.Test.YthjdeckdklhphaaGreatDoorSpecsEM
set_option linter.unusedVariables false
set_option linter.unusedSimpArgs false
namespace Go.Proofs.YthjdeckdklhphaaGreatDoor
open Go.RowKit

/-- Two values' cells, one behind the other. -/
def TwoV (w : World) (g : Nat) (c0 c1 c2 c3 c4 c5 d0 d1 d2 d3 d4 d5 : Value) : Prop :=
  w.cell? ⟨g, 0, none⟩ = some c0 ∧ w.cell? ⟨g, 1, none⟩ = some c1 ∧ w.cell? ⟨g, 2, none⟩ = some c2 ∧ w.cell? ⟨g, 3, none⟩ = some c3 ∧ w.cell? ⟨g, 4, none⟩ = some c4 ∧ w.cell? ⟨g, 5, none⟩ = some c5 ∧
  w.cell? ⟨g, 6, none⟩ = some d0 ∧ w.cell? ⟨g, 7, none⟩ = some d1 ∧ w.cell? ⟨g, 8, none⟩ = some d2 ∧ w.cell? ⟨g, 9, none⟩ = some d3 ∧ w.cell? ⟨g, 10, none⟩ = some d4 ∧ w.cell? ⟨g, 11, none⟩ = some d5
theorem TwoV.later {w w' : World} {g : Nat} {c0 c1 c2 c3 c4 c5 d0 d1 d2 d3 d4 d5 : Value} (h : TwoV w g c0 c1 c2 c3 c4 c5 d0 d1 d2 d3 d4 d5) (hb : Below w.heap.size w w') : TwoV w' g c0 c1 c2 c3 c4 c5 d0 d1 d2 d3 d4 d5 := by
  obtain ⟨h0, h1, h2, h3, h4, h5, h6, h7, h8, h9, ha, hc⟩ := h
  exact ⟨cells_frame hb h0, cells_frame hb h1, cells_frame hb h2, cells_frame hb h3, cells_frame hb h4, cells_frame hb h5, cells_frame hb h6, cells_frame hb h7, cells_frame hb h8, cells_frame hb h9, cells_frame hb ha, cells_frame hb hc⟩
theorem TwoV.new (w : World) (c0 c1 c2 c3 c4 c5 d0 d1 d2 d3 d4 d5 : Value) (t : TypeId) : TwoV (w.alloc (.cells #[c0, c1, c2, c3, c4, c5, d0, d1, d2, d3, d4, d5] t)) w.heap.size c0 c1 c2 c3 c4 c5 d0 d1 d2 d3 d4 d5 := by
  refine ⟨?_, ?_, ?_, ?_, ?_, ?_, ?_, ?_, ?_, ?_, ?_, ?_⟩ <;> rw [World.cell?_alloc_new] <;> rfl

theorem recI_yes {n : Int} {f : FuncId} {args : Array Value} {w : World} (hi : inI n) (h : Calls Tryz.prog f args w fun e w' => recI n e w w') : Calls Tryz.prog f args w fun e w' => e = .returned (.tuple #[.agg (cI n), .int .i64 0]) ∧ Below w.heap.size w w' := h.mono fun e w' h => by
  rcases h with ⟨⟨h1, h2⟩ | ⟨h1, h2⟩, hb⟩
  · exact ⟨h2, hb⟩
  · exact absurd hi h1
theorem recI_no {n : Int} {f : FuncId} {args : Array Value} {w : World} (hi : ¬ inI n) (h : Calls Tryz.prog f args w fun e w' => recI n e w w') : Calls Tryz.prog f args w fun e w' => e = .returned (.tuple #[.agg zeroV, .int .i64 9]) ∧ Below w.heap.size w w' := h.mono fun e w' h => by
  rcases h with ⟨⟨h1, h2⟩ | ⟨h1, h2⟩, hb⟩
  · exact absurd h1 hi
  · exact ⟨h2, hb⟩

/- Behind here: by genansw.py. -/
set_option maxRecDepth 100000 in
set_option maxHeartbeats 1000000 in
theorem fanswer_add (a b n : Int) (hO : ∀ w1, Calls Tryz.prog 57 #[.string ⟨#[97, 100, 100]⟩, .int .i64 a, .int .i64 b] w1 fun e w' => outI n e w1 w') (w : World) (sb : Nat) (h : TwoV w sb (.int .i64 2) (.bool false) (.int .i64 a) (.string ⟨#[]⟩) (.slice none 0 0) (.slice none 0 0) (.int .i64 2) (.bool false) (.int .i64 b) (.string ⟨#[]⟩) (.slice none 0 0) (.slice none 0 0)) :
    Calls Tryz.prog 16 #[.string ⟨#[97, 100, 100]⟩, .slice (some ⟨sb, 0, none⟩) 2 2] w fun e w' => recI n e w w' := by
  obtain ⟨dd, hu, hdd⟩ := Tryz.structV
  have DD := Lib.hid hdd
  have HU := Lib.hid hu
  clear hdd hu
  have hb1 := (Below.refl w.heap.size w).alloc (Nat.le_refl _) (.cells zeroV 28)
  have B1 := Lib.hid (Box6.new w zeroV 28)
  have T1 := Lib.hid (Thaw.new w zeroV 28)
  have es : (w.alloc (.cells zeroV 28)).heap.size = w.heap.size + 1 := by simp
  have H1 := Lib.hid (h.later hb1)
  have HB1 := Lib.hid hb1
  have ES := Lib.hid es
  clear h hb1 es
  by_cases hi : inI n
  · have RC := Lib.hid (fun w1 => recI_yes hi (freckoned_any ⟨#[97, 100, 100]⟩ a b n hO w1))
    have HI := Lib.hid hi
    clear hO hi
    go_enter Tryz.func16, Tryz.ntmps16
    go_upto_region 1 with fail
    generalize (w.alloc (.cells zeroV 28)) = v at *
    have hvr : w.heap.size < v.heap.size := by rw [ES.out]; omega
    go_upto_region 20 with fail
    obtain ⟨g0, g1, g2, g3, g4, g5, g6, g7, g8, g9, ga, gb⟩ := H1.out
    refine wp_region_specs4 v 10 (fun i => match i with | 0 => 62 | 1 => 63 | 2 => 64 | 3 => 65 | 4 => 66 | 5 => 67 | 6 => 68 | 7 => 69 | 8 => 70 | 9 => 71 | 10 => 5 | _ => 0) (fun i x wx => match i with | 0 => x = .string ⟨#[97, 100, 100]⟩ | 1 => x = .slice (some ⟨sb, 0, none⟩) 2 2 | 2 => x = .pointer (some ⟨sb, 0, none⟩) | 3 => x = .agg #[.int .i64 2, .bool false, .int .i64 a, .string ⟨#[]⟩, .slice none 0 0, .slice none 0 0] | 4 => x = .slice (some ⟨sb, 0, none⟩) 2 2 | 5 => x = .pointer (some ⟨sb, 6, none⟩) | 6 => x = .agg #[.int .i64 2, .bool false, .int .i64 b, .string ⟨#[]⟩, .slice none 0 0, .slice none 0 0] | 7 => x = .tuple #[.agg #[.int .i64 2, .bool false, .int .i64 n, .string ⟨#[]⟩, .slice none 0 0, .slice none 0 0], .int .i64 0] | 8 => x = .agg #[.int .i64 2, .bool false, .int .i64 n, .string ⟨#[]⟩, .slice none 0 0, .slice none 0 0] | 9 => x = .int .i64 0 | _ => True) (fun i x => match i with | 0 => x = .string ⟨#[97, 100, 100]⟩ | 1 => x = .slice (some ⟨sb, 0, none⟩) 2 2 | 2 => x = .pointer (some ⟨sb, 0, none⟩) | 3 => x = .agg #[.int .i64 2, .bool false, .int .i64 a, .string ⟨#[]⟩, .slice none 0 0, .slice none 0 0] | 4 => x = .slice (some ⟨sb, 0, none⟩) 2 2 | 5 => x = .pointer (some ⟨sb, 6, none⟩) | 6 => x = .agg #[.int .i64 2, .bool false, .int .i64 b, .string ⟨#[]⟩, .slice none 0 0, .slice none 0 0] | 7 => x = .tuple #[.agg #[.int .i64 2, .bool false, .int .i64 n, .string ⟨#[]⟩, .slice none 0 0, .slice none 0 0], .int .i64 0] | 8 => x = .agg #[.int .i64 2, .bool false, .int .i64 n, .string ⟨#[]⟩, .slice none 0 0, .slice none 0 0] | 9 => x = .int .i64 0 | _ => True) (fun wx => ∃ wb, Below v.heap.size v wb ∧ wx = setRow wb w.heap.size 0 [.int .i64 2, .bool false, .int .i64 n, .string ⟨#[]⟩, .slice none 0 0, .slice none 0 0]) (fun x wx => x = .int .i64 0 ∧ ∃ wb, Below v.heap.size v wb ∧ wx = setRow wb w.heap.size 0 [.int .i64 2, .bool false, .int .i64 n, .string ⟨#[]⟩, .slice none 0 0, .slice none 0 0]) (by kernel_rfl) (by kernel_rfl) ?s1 (Below.refl _ _) ?s2 ?sv ?s3 ?s4 ?s4b ?s5
    case s1 => intro i hi; rcases (by omega : i = 0 ∨ i = 1 ∨ i = 2 ∨ i = 3 ∨ i = 4 ∨ i = 5 ∨ i = 6 ∨ i = 7 ∨ i = 8 ∨ i = 9 ∨ i = 10) with rfl | rfl | rfl | rfl | rfl | rfl | rfl | rfl | rfl | rfl | rfl <;> exact Nat.lt_of_lt_of_le (by decide : _ < 193) (Nat.le_refl 193)
    case s2 =>
      intro i x w1 w2 hb hU
      match i, hU with
      | 7, h => exact h
      | 0, h | 1, h | 2, h | 3, h | 4, h | 5, h | 6, h | 8, h | 9, h => exact h
      | (n + 10), _ => trivial
    case sv =>
      intro i x w1 hi hU
      match i, hU with
      | 7, h => exact h
      | 0, h | 1, h | 2, h | 3, h | 4, h | 5, h | 6, h | 8, h | 9, h => exact h
      | (n + 10), _ => trivial
    case s3 =>
      intro i o ac wb K' ho hi hA hB hdep hK
      have sv0 : ac.tmps[0]?.getD undef = .string ⟨#[97, 100, 100]⟩ := hA.sl (t := 0) (by decide)
      have sv1 : ac.tmps[1]?.getD undef = .slice (some ⟨sb, 0, none⟩) 2 2 := hA.sl (t := 1) (by decide)
      have sv4 : ac.tmps[4]?.getD undef = .pointer (some ⟨w.heap.size, 0, none⟩) := hA.sl (t := 4) (by decide)
      have g0 := cells_frame hB g0
      have g1 := cells_frame hB g1
      have g2 := cells_frame hB g2
      have g3 := cells_frame hB g3
      have g4 := cells_frame hB g4
      have g5 := cells_frame hB g5
      have g6 := cells_frame hB g6
      have g7 := cells_frame hB g7
      have g8 := cells_frame hB g8
      have g9 := cells_frame hB g9
      have ga := cells_frame hB ga
      have gb := cells_frame hB gb
      rcases (by omega : i = 0 ∨ i = 1 ∨ i = 2 ∨ i = 3 ∨ i = 4 ∨ i = 5 ∨ i = 6 ∨ i = 7 ∨ i = 8 ∨ i = 9) with rfl | rfl | rfl | rfl | rfl | rfl | rfl | rfl | rfl | rfl
      · simp at ho
        subst ho
        clear hdep hA
        go_simp
        exact hK _ wb (Below.refl _ _) rfl
      · simp at ho
        subst ho
        clear hdep hA
        go_simp
        exact hK _ wb (Below.refl _ _) rfl
      · simp at ho
        subst ho
        have y1 : ac.tmps[63]?.getD undef = .slice (some ⟨sb, 0, none⟩) 2 2 := hdep { on := 1, ground := .data } (by simp) rfl
        clear hdep hA
        go_simp
        exact hK _ wb (Below.refl _ _) rfl
      · simp at ho
        subst ho
        have y2 : ac.tmps[64]?.getD undef = .pointer (some ⟨sb, 0, none⟩) := hdep { on := 2, ground := .data } (by simp) rfl
        clear hdep hA
        go_simp
        exact hK _ wb (Below.refl _ _) rfl
      · simp at ho
        subst ho
        clear hdep hA
        go_simp
        exact hK _ wb (Below.refl _ _) rfl
      · simp at ho
        subst ho
        have y4 : ac.tmps[66]?.getD undef = .slice (some ⟨sb, 0, none⟩) 2 2 := hdep { on := 4, ground := .data } (by simp) rfl
        clear hdep hA
        go_simp
        exact hK _ wb (Below.refl _ _) rfl
      · simp at ho
        subst ho
        have y5 : ac.tmps[67]?.getD undef = .pointer (some ⟨sb, 6, none⟩) := hdep { on := 5, ground := .data } (by simp) rfl
        clear hdep hA
        go_simp
        exact hK _ wb (Below.refl _ _) rfl
      · simp at ho
        subst ho
        have y0 : ac.tmps[62]?.getD undef = .string ⟨#[97, 100, 100]⟩ := hdep { on := 0, ground := .data } (by simp) rfl
        have y3 : ac.tmps[65]?.getD undef = .agg #[.int .i64 2, .bool false, .int .i64 a, .string ⟨#[]⟩, .slice none 0 0, .slice none 0 0] := hdep { on := 3, ground := .data } (by simp) rfl
        have y6 : ac.tmps[68]?.getD undef = .agg #[.int .i64 2, .bool false, .int .i64 b, .string ⟨#[]⟩, .slice none 0 0, .slice none 0 0] := hdep { on := 6, ground := .data } (by simp) rfl
        clear hdep hA
        go_simp
        refine (RC.out wb).mono ?_
        rintro e w5 ⟨rfl, hb5⟩
        exact hK _ w5 hb5 rfl
      · simp at ho
        subst ho
        have y7 : ac.tmps[69]?.getD undef = .tuple #[.agg #[.int .i64 2, .bool false, .int .i64 n, .string ⟨#[]⟩, .slice none 0 0, .slice none 0 0], .int .i64 0] := hdep { on := 7, ground := .data } (by simp) rfl
        clear hdep hA
        go_simp
        exact hK _ wb (Below.refl _ _) rfl
      · simp at ho
        subst ho
        have y7 : ac.tmps[69]?.getD undef = .tuple #[.agg #[.int .i64 2, .bool false, .int .i64 n, .string ⟨#[]⟩, .slice none 0 0, .slice none 0 0], .int .i64 0] := hdep { on := 7, ground := .data } (by simp) rfl
        clear hdep hA
        go_simp
        exact hK _ wb (Below.refl _ _) rfl
    case s4 =>
      intro o ac wb K' ho hA hB hU hK
      have sv0 : ac.tmps[0]?.getD undef = .string ⟨#[97, 100, 100]⟩ := hA.sl (t := 0) (by decide)
      have sv1 : ac.tmps[1]?.getD undef = .slice (some ⟨sb, 0, none⟩) 2 2 := hA.sl (t := 1) (by decide)
      have sv4 : ac.tmps[4]?.getD undef = .pointer (some ⟨w.heap.size, 0, none⟩) := hA.sl (t := 4) (by decide)
      have g0 := cells_frame hB g0
      have g1 := cells_frame hB g1
      have g2 := cells_frame hB g2
      have g3 := cells_frame hB g3
      have g4 := cells_frame hB g4
      have g5 := cells_frame hB g5
      have g6 := cells_frame hB g6
      have g7 := cells_frame hB g7
      have g8 := cells_frame hB g8
      have g9 := cells_frame hB g9
      have ga := cells_frame hB ga
      have gb := cells_frame hB gb
      simp at ho
      subst ho
      have y8 : ac.tmps[70]?.getD undef = .agg #[.int .i64 2, .bool false, .int .i64 n, .string ⟨#[]⟩, .slice none 0 0, .slice none 0 0] := hU 8 (by omega)
      clear hU hA
      obtain ⟨c0, c1, c2, c3, c4, c5⟩ := (B1.out.later hB hvr).six
      obtain ⟨f0, f1, f2, f3, f4, f5⟩ := (T1.out.later hB hvr).six
      go_simp
      exact hK _ ⟨wb, hB, rfl⟩
    case s4b =>
      intro o ac wb K' ho hA hVV hF hK
      have sv0 : ac.tmps[0]?.getD undef = .string ⟨#[97, 100, 100]⟩ := hA.sl (t := 0) (by decide)
      have sv1 : ac.tmps[1]?.getD undef = .slice (some ⟨sb, 0, none⟩) 2 2 := hA.sl (t := 1) (by decide)
      have sv4 : ac.tmps[4]?.getD undef = .pointer (some ⟨w.heap.size, 0, none⟩) := hA.sl (t := 4) (by decide)
      simp at ho
      subst ho
      have y9 : ac.tmps[71]?.getD undef = .int .i64 0 := hVV 9 (by omega)
      clear hVV hA
      go_simp
      exact hK _ _ ⟨rfl, hF⟩
    case s5 =>
      intro ac wn hA hVV hF
      have hs : slots 11 (fun i => match i with | 0 => 62 | 1 => 63 | 2 => 64 | 3 => 65 | 4 => 66 | 5 => 67 | 6 => 68 | 7 => 69 | 8 => 70 | 9 => 71 | 10 => 5 | _ => 0) = [62, 63, 64, 65, 66, 67, 68, 69, 70, 71, 5] := by rfl
      rw [hs] at hA
      have hac := hA.act (fun t ht => by
        have h8 : t = 62 ∨ t = 63 ∨ t = 64 ∨ t = 65 ∨ t = 66 ∨ t = 67 ∨ t = 68 ∨ t = 69 ∨ t = 70 ∨ t = 71 ∨ t = 5 := by simpa using ht
        rcases h8 with rfl | rfl | rfl | rfl | rfl | rfl | rfl | rfl | rfl | rfl | rfl <;> exact Nat.lt_of_lt_of_le (by decide : _ < 193) (Nat.le_refl 193))
      rw [List.foldl_cons, List.foldl_cons, List.foldl_cons, List.foldl_cons, List.foldl_cons, List.foldl_cons, List.foldl_cons, List.foldl_cons, List.foldl_cons, List.foldl_cons, List.foldl_cons, List.foldl_nil] at hac
      generalize sl ac 62 = x62 at hac
      generalize sl ac 63 = x63 at hac
      generalize sl ac 64 = x64 at hac
      generalize sl ac 65 = x65 at hac
      generalize sl ac 66 = x66 at hac
      generalize sl ac 67 = x67 at hac
      generalize sl ac 68 = x68 at hac
      generalize sl ac 69 = x69 at hac
      generalize sl ac 70 = x70 at hac
      generalize sl ac 71 = x71 at hac
      generalize sl ac 5 = x5 at hac hF
      clear hA hs hVV
      subst hac
      simp only [Act.put, List.setIfInBounds_toArray, List.set_cons_succ, List.set_cons_zero]
      obtain ⟨rfl, w5, hb5, rfl⟩ := hF
      have HV5 := Lib.hid hb5
      clear hb5
      generalize hW : setRow w5 w.heap.size 0 [.int .i64 2, .bool false, .int .i64 n, .string ⟨#[]⟩, .slice none 0 0, .slice none 0 0] = W5
      have HW := Lib.hid hW.symm
      clear hW
      go_wp2_with fail
      exact ret_cells_tmp w5 w.heap.size [.int .i64 2, .bool false, .int .i64 n, .string ⟨#[]⟩, .slice none 0 0, .slice none 0 0] HW.out Tryz.results16 rfl rfl DD.out HU.out Tryz.sizeV ((B1.out.later HV5.out hvr).cells rfl) ⟨.inl ⟨HI.out, rfl⟩, setRow_below _ (Nat.le_refl _) _ _ _ (bstep HB1.out HV5.out HB1.out.size)⟩
  · have RC := Lib.hid (fun w1 => recI_no hi (freckoned_any ⟨#[97, 100, 100]⟩ a b n hO w1))
    have HI := Lib.hid hi
    clear hO hi
    go_enter Tryz.func16, Tryz.ntmps16
    go_upto_region 1 with fail
    generalize (w.alloc (.cells zeroV 28)) = v at *
    have hvr : w.heap.size < v.heap.size := by rw [ES.out]; omega
    go_upto_region 20 with fail
    obtain ⟨g0, g1, g2, g3, g4, g5, g6, g7, g8, g9, ga, gb⟩ := H1.out
    refine wp_region_specs4 v 10 (fun i => match i with | 0 => 62 | 1 => 63 | 2 => 64 | 3 => 65 | 4 => 66 | 5 => 67 | 6 => 68 | 7 => 69 | 8 => 70 | 9 => 71 | 10 => 5 | _ => 0) (fun i x wx => match i with | 0 => x = .string ⟨#[97, 100, 100]⟩ | 1 => x = .slice (some ⟨sb, 0, none⟩) 2 2 | 2 => x = .pointer (some ⟨sb, 0, none⟩) | 3 => x = .agg #[.int .i64 2, .bool false, .int .i64 a, .string ⟨#[]⟩, .slice none 0 0, .slice none 0 0] | 4 => x = .slice (some ⟨sb, 0, none⟩) 2 2 | 5 => x = .pointer (some ⟨sb, 6, none⟩) | 6 => x = .agg #[.int .i64 2, .bool false, .int .i64 b, .string ⟨#[]⟩, .slice none 0 0, .slice none 0 0] | 7 => x = .tuple #[.agg #[.int .i64 0, .bool false, .int .i64 0, .string ⟨#[]⟩, .slice none 0 0, .slice none 0 0], .int .i64 9] | 8 => x = .agg #[.int .i64 0, .bool false, .int .i64 0, .string ⟨#[]⟩, .slice none 0 0, .slice none 0 0] | 9 => x = .int .i64 9 | _ => True) (fun i x => match i with | 0 => x = .string ⟨#[97, 100, 100]⟩ | 1 => x = .slice (some ⟨sb, 0, none⟩) 2 2 | 2 => x = .pointer (some ⟨sb, 0, none⟩) | 3 => x = .agg #[.int .i64 2, .bool false, .int .i64 a, .string ⟨#[]⟩, .slice none 0 0, .slice none 0 0] | 4 => x = .slice (some ⟨sb, 0, none⟩) 2 2 | 5 => x = .pointer (some ⟨sb, 6, none⟩) | 6 => x = .agg #[.int .i64 2, .bool false, .int .i64 b, .string ⟨#[]⟩, .slice none 0 0, .slice none 0 0] | 7 => x = .tuple #[.agg #[.int .i64 0, .bool false, .int .i64 0, .string ⟨#[]⟩, .slice none 0 0, .slice none 0 0], .int .i64 9] | 8 => x = .agg #[.int .i64 0, .bool false, .int .i64 0, .string ⟨#[]⟩, .slice none 0 0, .slice none 0 0] | 9 => x = .int .i64 9 | _ => True) (fun wx => ∃ wb, Below v.heap.size v wb ∧ wx = setRow wb w.heap.size 0 [.int .i64 0, .bool false, .int .i64 0, .string ⟨#[]⟩, .slice none 0 0, .slice none 0 0]) (fun x wx => x = .int .i64 9 ∧ ∃ wb, Below v.heap.size v wb ∧ wx = setRow wb w.heap.size 0 [.int .i64 0, .bool false, .int .i64 0, .string ⟨#[]⟩, .slice none 0 0, .slice none 0 0]) (by kernel_rfl) (by kernel_rfl) ?s1 (Below.refl _ _) ?s2 ?sv ?s3 ?s4 ?s4b ?s5
    case s1 => intro i hi; rcases (by omega : i = 0 ∨ i = 1 ∨ i = 2 ∨ i = 3 ∨ i = 4 ∨ i = 5 ∨ i = 6 ∨ i = 7 ∨ i = 8 ∨ i = 9 ∨ i = 10) with rfl | rfl | rfl | rfl | rfl | rfl | rfl | rfl | rfl | rfl | rfl <;> exact Nat.lt_of_lt_of_le (by decide : _ < 193) (Nat.le_refl 193)
    case s2 =>
      intro i x w1 w2 hb hU
      match i, hU with
      | 7, h => exact h
      | 0, h | 1, h | 2, h | 3, h | 4, h | 5, h | 6, h | 8, h | 9, h => exact h
      | (n + 10), _ => trivial
    case sv =>
      intro i x w1 hi hU
      match i, hU with
      | 7, h => exact h
      | 0, h | 1, h | 2, h | 3, h | 4, h | 5, h | 6, h | 8, h | 9, h => exact h
      | (n + 10), _ => trivial
    case s3 =>
      intro i o ac wb K' ho hi hA hB hdep hK
      have sv0 : ac.tmps[0]?.getD undef = .string ⟨#[97, 100, 100]⟩ := hA.sl (t := 0) (by decide)
      have sv1 : ac.tmps[1]?.getD undef = .slice (some ⟨sb, 0, none⟩) 2 2 := hA.sl (t := 1) (by decide)
      have sv4 : ac.tmps[4]?.getD undef = .pointer (some ⟨w.heap.size, 0, none⟩) := hA.sl (t := 4) (by decide)
      have g0 := cells_frame hB g0
      have g1 := cells_frame hB g1
      have g2 := cells_frame hB g2
      have g3 := cells_frame hB g3
      have g4 := cells_frame hB g4
      have g5 := cells_frame hB g5
      have g6 := cells_frame hB g6
      have g7 := cells_frame hB g7
      have g8 := cells_frame hB g8
      have g9 := cells_frame hB g9
      have ga := cells_frame hB ga
      have gb := cells_frame hB gb
      rcases (by omega : i = 0 ∨ i = 1 ∨ i = 2 ∨ i = 3 ∨ i = 4 ∨ i = 5 ∨ i = 6 ∨ i = 7 ∨ i = 8 ∨ i = 9) with rfl | rfl | rfl | rfl | rfl | rfl | rfl | rfl | rfl | rfl
      · simp at ho
        subst ho
        clear hdep hA
        go_simp
        exact hK _ wb (Below.refl _ _) rfl
      · simp at ho
        subst ho
        clear hdep hA
        go_simp
        exact hK _ wb (Below.refl _ _) rfl
      · simp at ho
        subst ho
        have y1 : ac.tmps[63]?.getD undef = .slice (some ⟨sb, 0, none⟩) 2 2 := hdep { on := 1, ground := .data } (by simp) rfl
        clear hdep hA
        go_simp
        exact hK _ wb (Below.refl _ _) rfl
      · simp at ho
        subst ho
        have y2 : ac.tmps[64]?.getD undef = .pointer (some ⟨sb, 0, none⟩) := hdep { on := 2, ground := .data } (by simp) rfl
        clear hdep hA
        go_simp
        exact hK _ wb (Below.refl _ _) rfl
      · simp at ho
        subst ho
        clear hdep hA
        go_simp
        exact hK _ wb (Below.refl _ _) rfl
      · simp at ho
        subst ho
        have y4 : ac.tmps[66]?.getD undef = .slice (some ⟨sb, 0, none⟩) 2 2 := hdep { on := 4, ground := .data } (by simp) rfl
        clear hdep hA
        go_simp
        exact hK _ wb (Below.refl _ _) rfl
      · simp at ho
        subst ho
        have y5 : ac.tmps[67]?.getD undef = .pointer (some ⟨sb, 6, none⟩) := hdep { on := 5, ground := .data } (by simp) rfl
        clear hdep hA
        go_simp
        exact hK _ wb (Below.refl _ _) rfl
      · simp at ho
        subst ho
        have y0 : ac.tmps[62]?.getD undef = .string ⟨#[97, 100, 100]⟩ := hdep { on := 0, ground := .data } (by simp) rfl
        have y3 : ac.tmps[65]?.getD undef = .agg #[.int .i64 2, .bool false, .int .i64 a, .string ⟨#[]⟩, .slice none 0 0, .slice none 0 0] := hdep { on := 3, ground := .data } (by simp) rfl
        have y6 : ac.tmps[68]?.getD undef = .agg #[.int .i64 2, .bool false, .int .i64 b, .string ⟨#[]⟩, .slice none 0 0, .slice none 0 0] := hdep { on := 6, ground := .data } (by simp) rfl
        clear hdep hA
        go_simp
        refine (RC.out wb).mono ?_
        rintro e w5 ⟨rfl, hb5⟩
        exact hK _ w5 hb5 rfl
      · simp at ho
        subst ho
        have y7 : ac.tmps[69]?.getD undef = .tuple #[.agg #[.int .i64 0, .bool false, .int .i64 0, .string ⟨#[]⟩, .slice none 0 0, .slice none 0 0], .int .i64 9] := hdep { on := 7, ground := .data } (by simp) rfl
        clear hdep hA
        go_simp
        exact hK _ wb (Below.refl _ _) rfl
      · simp at ho
        subst ho
        have y7 : ac.tmps[69]?.getD undef = .tuple #[.agg #[.int .i64 0, .bool false, .int .i64 0, .string ⟨#[]⟩, .slice none 0 0, .slice none 0 0], .int .i64 9] := hdep { on := 7, ground := .data } (by simp) rfl
        clear hdep hA
        go_simp
        exact hK _ wb (Below.refl _ _) rfl
    case s4 =>
      intro o ac wb K' ho hA hB hU hK
      have sv0 : ac.tmps[0]?.getD undef = .string ⟨#[97, 100, 100]⟩ := hA.sl (t := 0) (by decide)
      have sv1 : ac.tmps[1]?.getD undef = .slice (some ⟨sb, 0, none⟩) 2 2 := hA.sl (t := 1) (by decide)
      have sv4 : ac.tmps[4]?.getD undef = .pointer (some ⟨w.heap.size, 0, none⟩) := hA.sl (t := 4) (by decide)
      have g0 := cells_frame hB g0
      have g1 := cells_frame hB g1
      have g2 := cells_frame hB g2
      have g3 := cells_frame hB g3
      have g4 := cells_frame hB g4
      have g5 := cells_frame hB g5
      have g6 := cells_frame hB g6
      have g7 := cells_frame hB g7
      have g8 := cells_frame hB g8
      have g9 := cells_frame hB g9
      have ga := cells_frame hB ga
      have gb := cells_frame hB gb
      simp at ho
      subst ho
      have y8 : ac.tmps[70]?.getD undef = .agg #[.int .i64 0, .bool false, .int .i64 0, .string ⟨#[]⟩, .slice none 0 0, .slice none 0 0] := hU 8 (by omega)
      clear hU hA
      obtain ⟨c0, c1, c2, c3, c4, c5⟩ := (B1.out.later hB hvr).six
      obtain ⟨f0, f1, f2, f3, f4, f5⟩ := (T1.out.later hB hvr).six
      go_simp
      exact hK _ ⟨wb, hB, rfl⟩
    case s4b =>
      intro o ac wb K' ho hA hVV hF hK
      have sv0 : ac.tmps[0]?.getD undef = .string ⟨#[97, 100, 100]⟩ := hA.sl (t := 0) (by decide)
      have sv1 : ac.tmps[1]?.getD undef = .slice (some ⟨sb, 0, none⟩) 2 2 := hA.sl (t := 1) (by decide)
      have sv4 : ac.tmps[4]?.getD undef = .pointer (some ⟨w.heap.size, 0, none⟩) := hA.sl (t := 4) (by decide)
      simp at ho
      subst ho
      have y9 : ac.tmps[71]?.getD undef = .int .i64 9 := hVV 9 (by omega)
      clear hVV hA
      go_simp
      exact hK _ _ ⟨rfl, hF⟩
    case s5 =>
      intro ac wn hA hVV hF
      have hs : slots 11 (fun i => match i with | 0 => 62 | 1 => 63 | 2 => 64 | 3 => 65 | 4 => 66 | 5 => 67 | 6 => 68 | 7 => 69 | 8 => 70 | 9 => 71 | 10 => 5 | _ => 0) = [62, 63, 64, 65, 66, 67, 68, 69, 70, 71, 5] := by rfl
      rw [hs] at hA
      have hac := hA.act (fun t ht => by
        have h8 : t = 62 ∨ t = 63 ∨ t = 64 ∨ t = 65 ∨ t = 66 ∨ t = 67 ∨ t = 68 ∨ t = 69 ∨ t = 70 ∨ t = 71 ∨ t = 5 := by simpa using ht
        rcases h8 with rfl | rfl | rfl | rfl | rfl | rfl | rfl | rfl | rfl | rfl | rfl <;> exact Nat.lt_of_lt_of_le (by decide : _ < 193) (Nat.le_refl 193))
      rw [List.foldl_cons, List.foldl_cons, List.foldl_cons, List.foldl_cons, List.foldl_cons, List.foldl_cons, List.foldl_cons, List.foldl_cons, List.foldl_cons, List.foldl_cons, List.foldl_cons, List.foldl_nil] at hac
      generalize sl ac 62 = x62 at hac
      generalize sl ac 63 = x63 at hac
      generalize sl ac 64 = x64 at hac
      generalize sl ac 65 = x65 at hac
      generalize sl ac 66 = x66 at hac
      generalize sl ac 67 = x67 at hac
      generalize sl ac 68 = x68 at hac
      generalize sl ac 69 = x69 at hac
      generalize sl ac 70 = x70 at hac
      generalize sl ac 71 = x71 at hac
      generalize sl ac 5 = x5 at hac hF
      clear hA hs hVV
      subst hac
      simp only [Act.put, List.setIfInBounds_toArray, List.set_cons_succ, List.set_cons_zero]
      obtain ⟨rfl, w5, hb5, rfl⟩ := hF
      have HV5 := Lib.hid hb5
      clear hb5
      generalize hW : setRow w5 w.heap.size 0 [.int .i64 0, .bool false, .int .i64 0, .string ⟨#[]⟩, .slice none 0 0, .slice none 0 0] = W5
      have HW := Lib.hid hW.symm
      clear hW
      go_wp2_with fail
      exact ret_cells_tmp w5 w.heap.size [.int .i64 0, .bool false, .int .i64 0, .string ⟨#[]⟩, .slice none 0 0, .slice none 0 0] HW.out Tryz.results16 rfl rfl DD.out HU.out Tryz.sizeV ((B1.out.later HV5.out hvr).cells rfl) ⟨.inr ⟨HI.out, rfl⟩, setRow_below _ (Nat.le_refl _) _ _ _ (bstep HB1.out HV5.out HB1.out.size)⟩

set_option maxRecDepth 100000 in
set_option maxHeartbeats 1000000 in
theorem fanswer_sub (a b n : Int) (hO : ∀ w1, Calls Tryz.prog 57 #[.string ⟨#[115, 117, 98]⟩, .int .i64 a, .int .i64 b] w1 fun e w' => outI n e w1 w') (w : World) (sb : Nat) (h : TwoV w sb (.int .i64 2) (.bool false) (.int .i64 a) (.string ⟨#[]⟩) (.slice none 0 0) (.slice none 0 0) (.int .i64 2) (.bool false) (.int .i64 b) (.string ⟨#[]⟩) (.slice none 0 0) (.slice none 0 0)) :
    Calls Tryz.prog 16 #[.string ⟨#[115, 117, 98]⟩, .slice (some ⟨sb, 0, none⟩) 2 2] w fun e w' => recI n e w w' := by
  obtain ⟨dd, hu, hdd⟩ := Tryz.structV
  have DD := Lib.hid hdd
  have HU := Lib.hid hu
  clear hdd hu
  have hb1 := (Below.refl w.heap.size w).alloc (Nat.le_refl _) (.cells zeroV 28)
  have B1 := Lib.hid (Box6.new w zeroV 28)
  have T1 := Lib.hid (Thaw.new w zeroV 28)
  have es : (w.alloc (.cells zeroV 28)).heap.size = w.heap.size + 1 := by simp
  have H1 := Lib.hid (h.later hb1)
  have HB1 := Lib.hid hb1
  have ES := Lib.hid es
  clear h hb1 es
  by_cases hi : inI n
  · have RC := Lib.hid (fun w1 => recI_yes hi (freckoned_any ⟨#[115, 117, 98]⟩ a b n hO w1))
    have HI := Lib.hid hi
    clear hO hi
    go_enter Tryz.func16, Tryz.ntmps16
    go_upto_region 1 with fail
    generalize (w.alloc (.cells zeroV 28)) = v at *
    have hvr : w.heap.size < v.heap.size := by rw [ES.out]; omega
    go_upto_region 20 with fail
    obtain ⟨g0, g1, g2, g3, g4, g5, g6, g7, g8, g9, ga, gb⟩ := H1.out
    refine wp_region_specs4 v 10 (fun i => match i with | 0 => 62 | 1 => 63 | 2 => 64 | 3 => 65 | 4 => 66 | 5 => 67 | 6 => 68 | 7 => 69 | 8 => 70 | 9 => 71 | 10 => 5 | _ => 0) (fun i x wx => match i with | 0 => x = .string ⟨#[115, 117, 98]⟩ | 1 => x = .slice (some ⟨sb, 0, none⟩) 2 2 | 2 => x = .pointer (some ⟨sb, 0, none⟩) | 3 => x = .agg #[.int .i64 2, .bool false, .int .i64 a, .string ⟨#[]⟩, .slice none 0 0, .slice none 0 0] | 4 => x = .slice (some ⟨sb, 0, none⟩) 2 2 | 5 => x = .pointer (some ⟨sb, 6, none⟩) | 6 => x = .agg #[.int .i64 2, .bool false, .int .i64 b, .string ⟨#[]⟩, .slice none 0 0, .slice none 0 0] | 7 => x = .tuple #[.agg #[.int .i64 2, .bool false, .int .i64 n, .string ⟨#[]⟩, .slice none 0 0, .slice none 0 0], .int .i64 0] | 8 => x = .agg #[.int .i64 2, .bool false, .int .i64 n, .string ⟨#[]⟩, .slice none 0 0, .slice none 0 0] | 9 => x = .int .i64 0 | _ => True) (fun i x => match i with | 0 => x = .string ⟨#[115, 117, 98]⟩ | 1 => x = .slice (some ⟨sb, 0, none⟩) 2 2 | 2 => x = .pointer (some ⟨sb, 0, none⟩) | 3 => x = .agg #[.int .i64 2, .bool false, .int .i64 a, .string ⟨#[]⟩, .slice none 0 0, .slice none 0 0] | 4 => x = .slice (some ⟨sb, 0, none⟩) 2 2 | 5 => x = .pointer (some ⟨sb, 6, none⟩) | 6 => x = .agg #[.int .i64 2, .bool false, .int .i64 b, .string ⟨#[]⟩, .slice none 0 0, .slice none 0 0] | 7 => x = .tuple #[.agg #[.int .i64 2, .bool false, .int .i64 n, .string ⟨#[]⟩, .slice none 0 0, .slice none 0 0], .int .i64 0] | 8 => x = .agg #[.int .i64 2, .bool false, .int .i64 n, .string ⟨#[]⟩, .slice none 0 0, .slice none 0 0] | 9 => x = .int .i64 0 | _ => True) (fun wx => ∃ wb, Below v.heap.size v wb ∧ wx = setRow wb w.heap.size 0 [.int .i64 2, .bool false, .int .i64 n, .string ⟨#[]⟩, .slice none 0 0, .slice none 0 0]) (fun x wx => x = .int .i64 0 ∧ ∃ wb, Below v.heap.size v wb ∧ wx = setRow wb w.heap.size 0 [.int .i64 2, .bool false, .int .i64 n, .string ⟨#[]⟩, .slice none 0 0, .slice none 0 0]) (by kernel_rfl) (by kernel_rfl) ?s1 (Below.refl _ _) ?s2 ?sv ?s3 ?s4 ?s4b ?s5
    case s1 => intro i hi; rcases (by omega : i = 0 ∨ i = 1 ∨ i = 2 ∨ i = 3 ∨ i = 4 ∨ i = 5 ∨ i = 6 ∨ i = 7 ∨ i = 8 ∨ i = 9 ∨ i = 10) with rfl | rfl | rfl | rfl | rfl | rfl | rfl | rfl | rfl | rfl | rfl <;> exact Nat.lt_of_lt_of_le (by decide : _ < 193) (Nat.le_refl 193)
    case s2 =>
      intro i x w1 w2 hb hU
      match i, hU with
      | 7, h => exact h
      | 0, h | 1, h | 2, h | 3, h | 4, h | 5, h | 6, h | 8, h | 9, h => exact h
      | (n + 10), _ => trivial
    case sv =>
      intro i x w1 hi hU
      match i, hU with
      | 7, h => exact h
      | 0, h | 1, h | 2, h | 3, h | 4, h | 5, h | 6, h | 8, h | 9, h => exact h
      | (n + 10), _ => trivial
    case s3 =>
      intro i o ac wb K' ho hi hA hB hdep hK
      have sv0 : ac.tmps[0]?.getD undef = .string ⟨#[115, 117, 98]⟩ := hA.sl (t := 0) (by decide)
      have sv1 : ac.tmps[1]?.getD undef = .slice (some ⟨sb, 0, none⟩) 2 2 := hA.sl (t := 1) (by decide)
      have sv4 : ac.tmps[4]?.getD undef = .pointer (some ⟨w.heap.size, 0, none⟩) := hA.sl (t := 4) (by decide)
      have g0 := cells_frame hB g0
      have g1 := cells_frame hB g1
      have g2 := cells_frame hB g2
      have g3 := cells_frame hB g3
      have g4 := cells_frame hB g4
      have g5 := cells_frame hB g5
      have g6 := cells_frame hB g6
      have g7 := cells_frame hB g7
      have g8 := cells_frame hB g8
      have g9 := cells_frame hB g9
      have ga := cells_frame hB ga
      have gb := cells_frame hB gb
      rcases (by omega : i = 0 ∨ i = 1 ∨ i = 2 ∨ i = 3 ∨ i = 4 ∨ i = 5 ∨ i = 6 ∨ i = 7 ∨ i = 8 ∨ i = 9) with rfl | rfl | rfl | rfl | rfl | rfl | rfl | rfl | rfl | rfl
      · simp at ho
        subst ho
        clear hdep hA
        go_simp
        exact hK _ wb (Below.refl _ _) rfl
      · simp at ho
        subst ho
        clear hdep hA
        go_simp
        exact hK _ wb (Below.refl _ _) rfl
      · simp at ho
        subst ho
        have y1 : ac.tmps[63]?.getD undef = .slice (some ⟨sb, 0, none⟩) 2 2 := hdep { on := 1, ground := .data } (by simp) rfl
        clear hdep hA
        go_simp
        exact hK _ wb (Below.refl _ _) rfl
      · simp at ho
        subst ho
        have y2 : ac.tmps[64]?.getD undef = .pointer (some ⟨sb, 0, none⟩) := hdep { on := 2, ground := .data } (by simp) rfl
        clear hdep hA
        go_simp
        exact hK _ wb (Below.refl _ _) rfl
      · simp at ho
        subst ho
        clear hdep hA
        go_simp
        exact hK _ wb (Below.refl _ _) rfl
      · simp at ho
        subst ho
        have y4 : ac.tmps[66]?.getD undef = .slice (some ⟨sb, 0, none⟩) 2 2 := hdep { on := 4, ground := .data } (by simp) rfl
        clear hdep hA
        go_simp
        exact hK _ wb (Below.refl _ _) rfl
      · simp at ho
        subst ho
        have y5 : ac.tmps[67]?.getD undef = .pointer (some ⟨sb, 6, none⟩) := hdep { on := 5, ground := .data } (by simp) rfl
        clear hdep hA
        go_simp
        exact hK _ wb (Below.refl _ _) rfl
      · simp at ho
        subst ho
        have y0 : ac.tmps[62]?.getD undef = .string ⟨#[115, 117, 98]⟩ := hdep { on := 0, ground := .data } (by simp) rfl
        have y3 : ac.tmps[65]?.getD undef = .agg #[.int .i64 2, .bool false, .int .i64 a, .string ⟨#[]⟩, .slice none 0 0, .slice none 0 0] := hdep { on := 3, ground := .data } (by simp) rfl
        have y6 : ac.tmps[68]?.getD undef = .agg #[.int .i64 2, .bool false, .int .i64 b, .string ⟨#[]⟩, .slice none 0 0, .slice none 0 0] := hdep { on := 6, ground := .data } (by simp) rfl
        clear hdep hA
        go_simp
        refine (RC.out wb).mono ?_
        rintro e w5 ⟨rfl, hb5⟩
        exact hK _ w5 hb5 rfl
      · simp at ho
        subst ho
        have y7 : ac.tmps[69]?.getD undef = .tuple #[.agg #[.int .i64 2, .bool false, .int .i64 n, .string ⟨#[]⟩, .slice none 0 0, .slice none 0 0], .int .i64 0] := hdep { on := 7, ground := .data } (by simp) rfl
        clear hdep hA
        go_simp
        exact hK _ wb (Below.refl _ _) rfl
      · simp at ho
        subst ho
        have y7 : ac.tmps[69]?.getD undef = .tuple #[.agg #[.int .i64 2, .bool false, .int .i64 n, .string ⟨#[]⟩, .slice none 0 0, .slice none 0 0], .int .i64 0] := hdep { on := 7, ground := .data } (by simp) rfl
        clear hdep hA
        go_simp
        exact hK _ wb (Below.refl _ _) rfl
    case s4 =>
      intro o ac wb K' ho hA hB hU hK
      have sv0 : ac.tmps[0]?.getD undef = .string ⟨#[115, 117, 98]⟩ := hA.sl (t := 0) (by decide)
      have sv1 : ac.tmps[1]?.getD undef = .slice (some ⟨sb, 0, none⟩) 2 2 := hA.sl (t := 1) (by decide)
      have sv4 : ac.tmps[4]?.getD undef = .pointer (some ⟨w.heap.size, 0, none⟩) := hA.sl (t := 4) (by decide)
      have g0 := cells_frame hB g0
      have g1 := cells_frame hB g1
      have g2 := cells_frame hB g2
      have g3 := cells_frame hB g3
      have g4 := cells_frame hB g4
      have g5 := cells_frame hB g5
      have g6 := cells_frame hB g6
      have g7 := cells_frame hB g7
      have g8 := cells_frame hB g8
      have g9 := cells_frame hB g9
      have ga := cells_frame hB ga
      have gb := cells_frame hB gb
      simp at ho
      subst ho
      have y8 : ac.tmps[70]?.getD undef = .agg #[.int .i64 2, .bool false, .int .i64 n, .string ⟨#[]⟩, .slice none 0 0, .slice none 0 0] := hU 8 (by omega)
      clear hU hA
      obtain ⟨c0, c1, c2, c3, c4, c5⟩ := (B1.out.later hB hvr).six
      obtain ⟨f0, f1, f2, f3, f4, f5⟩ := (T1.out.later hB hvr).six
      go_simp
      exact hK _ ⟨wb, hB, rfl⟩
    case s4b =>
      intro o ac wb K' ho hA hVV hF hK
      have sv0 : ac.tmps[0]?.getD undef = .string ⟨#[115, 117, 98]⟩ := hA.sl (t := 0) (by decide)
      have sv1 : ac.tmps[1]?.getD undef = .slice (some ⟨sb, 0, none⟩) 2 2 := hA.sl (t := 1) (by decide)
      have sv4 : ac.tmps[4]?.getD undef = .pointer (some ⟨w.heap.size, 0, none⟩) := hA.sl (t := 4) (by decide)
      simp at ho
      subst ho
      have y9 : ac.tmps[71]?.getD undef = .int .i64 0 := hVV 9 (by omega)
      clear hVV hA
      go_simp
      exact hK _ _ ⟨rfl, hF⟩
    case s5 =>
      intro ac wn hA hVV hF
      have hs : slots 11 (fun i => match i with | 0 => 62 | 1 => 63 | 2 => 64 | 3 => 65 | 4 => 66 | 5 => 67 | 6 => 68 | 7 => 69 | 8 => 70 | 9 => 71 | 10 => 5 | _ => 0) = [62, 63, 64, 65, 66, 67, 68, 69, 70, 71, 5] := by rfl
      rw [hs] at hA
      have hac := hA.act (fun t ht => by
        have h8 : t = 62 ∨ t = 63 ∨ t = 64 ∨ t = 65 ∨ t = 66 ∨ t = 67 ∨ t = 68 ∨ t = 69 ∨ t = 70 ∨ t = 71 ∨ t = 5 := by simpa using ht
        rcases h8 with rfl | rfl | rfl | rfl | rfl | rfl | rfl | rfl | rfl | rfl | rfl <;> exact Nat.lt_of_lt_of_le (by decide : _ < 193) (Nat.le_refl 193))
      rw [List.foldl_cons, List.foldl_cons, List.foldl_cons, List.foldl_cons, List.foldl_cons, List.foldl_cons, List.foldl_cons, List.foldl_cons, List.foldl_cons, List.foldl_cons, List.foldl_cons, List.foldl_nil] at hac
      generalize sl ac 62 = x62 at hac
      generalize sl ac 63 = x63 at hac
      generalize sl ac 64 = x64 at hac
      generalize sl ac 65 = x65 at hac
      generalize sl ac 66 = x66 at hac
      generalize sl ac 67 = x67 at hac
      generalize sl ac 68 = x68 at hac
      generalize sl ac 69 = x69 at hac
      generalize sl ac 70 = x70 at hac
      generalize sl ac 71 = x71 at hac
      generalize sl ac 5 = x5 at hac hF
      clear hA hs hVV
      subst hac
      simp only [Act.put, List.setIfInBounds_toArray, List.set_cons_succ, List.set_cons_zero]
      obtain ⟨rfl, w5, hb5, rfl⟩ := hF
      have HV5 := Lib.hid hb5
      clear hb5
      generalize hW : setRow w5 w.heap.size 0 [.int .i64 2, .bool false, .int .i64 n, .string ⟨#[]⟩, .slice none 0 0, .slice none 0 0] = W5
      have HW := Lib.hid hW.symm
      clear hW
      go_wp2_with fail
      exact ret_cells_tmp w5 w.heap.size [.int .i64 2, .bool false, .int .i64 n, .string ⟨#[]⟩, .slice none 0 0, .slice none 0 0] HW.out Tryz.results16 rfl rfl DD.out HU.out Tryz.sizeV ((B1.out.later HV5.out hvr).cells rfl) ⟨.inl ⟨HI.out, rfl⟩, setRow_below _ (Nat.le_refl _) _ _ _ (bstep HB1.out HV5.out HB1.out.size)⟩
  · have RC := Lib.hid (fun w1 => recI_no hi (freckoned_any ⟨#[115, 117, 98]⟩ a b n hO w1))
    have HI := Lib.hid hi
    clear hO hi
    go_enter Tryz.func16, Tryz.ntmps16
    go_upto_region 1 with fail
    generalize (w.alloc (.cells zeroV 28)) = v at *
    have hvr : w.heap.size < v.heap.size := by rw [ES.out]; omega
    go_upto_region 20 with fail
    obtain ⟨g0, g1, g2, g3, g4, g5, g6, g7, g8, g9, ga, gb⟩ := H1.out
    refine wp_region_specs4 v 10 (fun i => match i with | 0 => 62 | 1 => 63 | 2 => 64 | 3 => 65 | 4 => 66 | 5 => 67 | 6 => 68 | 7 => 69 | 8 => 70 | 9 => 71 | 10 => 5 | _ => 0) (fun i x wx => match i with | 0 => x = .string ⟨#[115, 117, 98]⟩ | 1 => x = .slice (some ⟨sb, 0, none⟩) 2 2 | 2 => x = .pointer (some ⟨sb, 0, none⟩) | 3 => x = .agg #[.int .i64 2, .bool false, .int .i64 a, .string ⟨#[]⟩, .slice none 0 0, .slice none 0 0] | 4 => x = .slice (some ⟨sb, 0, none⟩) 2 2 | 5 => x = .pointer (some ⟨sb, 6, none⟩) | 6 => x = .agg #[.int .i64 2, .bool false, .int .i64 b, .string ⟨#[]⟩, .slice none 0 0, .slice none 0 0] | 7 => x = .tuple #[.agg #[.int .i64 0, .bool false, .int .i64 0, .string ⟨#[]⟩, .slice none 0 0, .slice none 0 0], .int .i64 9] | 8 => x = .agg #[.int .i64 0, .bool false, .int .i64 0, .string ⟨#[]⟩, .slice none 0 0, .slice none 0 0] | 9 => x = .int .i64 9 | _ => True) (fun i x => match i with | 0 => x = .string ⟨#[115, 117, 98]⟩ | 1 => x = .slice (some ⟨sb, 0, none⟩) 2 2 | 2 => x = .pointer (some ⟨sb, 0, none⟩) | 3 => x = .agg #[.int .i64 2, .bool false, .int .i64 a, .string ⟨#[]⟩, .slice none 0 0, .slice none 0 0] | 4 => x = .slice (some ⟨sb, 0, none⟩) 2 2 | 5 => x = .pointer (some ⟨sb, 6, none⟩) | 6 => x = .agg #[.int .i64 2, .bool false, .int .i64 b, .string ⟨#[]⟩, .slice none 0 0, .slice none 0 0] | 7 => x = .tuple #[.agg #[.int .i64 0, .bool false, .int .i64 0, .string ⟨#[]⟩, .slice none 0 0, .slice none 0 0], .int .i64 9] | 8 => x = .agg #[.int .i64 0, .bool false, .int .i64 0, .string ⟨#[]⟩, .slice none 0 0, .slice none 0 0] | 9 => x = .int .i64 9 | _ => True) (fun wx => ∃ wb, Below v.heap.size v wb ∧ wx = setRow wb w.heap.size 0 [.int .i64 0, .bool false, .int .i64 0, .string ⟨#[]⟩, .slice none 0 0, .slice none 0 0]) (fun x wx => x = .int .i64 9 ∧ ∃ wb, Below v.heap.size v wb ∧ wx = setRow wb w.heap.size 0 [.int .i64 0, .bool false, .int .i64 0, .string ⟨#[]⟩, .slice none 0 0, .slice none 0 0]) (by kernel_rfl) (by kernel_rfl) ?s1 (Below.refl _ _) ?s2 ?sv ?s3 ?s4 ?s4b ?s5
    case s1 => intro i hi; rcases (by omega : i = 0 ∨ i = 1 ∨ i = 2 ∨ i = 3 ∨ i = 4 ∨ i = 5 ∨ i = 6 ∨ i = 7 ∨ i = 8 ∨ i = 9 ∨ i = 10) with rfl | rfl | rfl | rfl | rfl | rfl | rfl | rfl | rfl | rfl | rfl <;> exact Nat.lt_of_lt_of_le (by decide : _ < 193) (Nat.le_refl 193)
    case s2 =>
      intro i x w1 w2 hb hU
      match i, hU with
      | 7, h => exact h
      | 0, h | 1, h | 2, h | 3, h | 4, h | 5, h | 6, h | 8, h | 9, h => exact h
      | (n + 10), _ => trivial
    case sv =>
      intro i x w1 hi hU
      match i, hU with
      | 7, h => exact h
      | 0, h | 1, h | 2, h | 3, h | 4, h | 5, h | 6, h | 8, h | 9, h => exact h
      | (n + 10), _ => trivial
    case s3 =>
      intro i o ac wb K' ho hi hA hB hdep hK
      have sv0 : ac.tmps[0]?.getD undef = .string ⟨#[115, 117, 98]⟩ := hA.sl (t := 0) (by decide)
      have sv1 : ac.tmps[1]?.getD undef = .slice (some ⟨sb, 0, none⟩) 2 2 := hA.sl (t := 1) (by decide)
      have sv4 : ac.tmps[4]?.getD undef = .pointer (some ⟨w.heap.size, 0, none⟩) := hA.sl (t := 4) (by decide)
      have g0 := cells_frame hB g0
      have g1 := cells_frame hB g1
      have g2 := cells_frame hB g2
      have g3 := cells_frame hB g3
      have g4 := cells_frame hB g4
      have g5 := cells_frame hB g5
      have g6 := cells_frame hB g6
      have g7 := cells_frame hB g7
      have g8 := cells_frame hB g8
      have g9 := cells_frame hB g9
      have ga := cells_frame hB ga
      have gb := cells_frame hB gb
      rcases (by omega : i = 0 ∨ i = 1 ∨ i = 2 ∨ i = 3 ∨ i = 4 ∨ i = 5 ∨ i = 6 ∨ i = 7 ∨ i = 8 ∨ i = 9) with rfl | rfl | rfl | rfl | rfl | rfl | rfl | rfl | rfl | rfl
      · simp at ho
        subst ho
        clear hdep hA
        go_simp
        exact hK _ wb (Below.refl _ _) rfl
      · simp at ho
        subst ho
        clear hdep hA
        go_simp
        exact hK _ wb (Below.refl _ _) rfl
      · simp at ho
        subst ho
        have y1 : ac.tmps[63]?.getD undef = .slice (some ⟨sb, 0, none⟩) 2 2 := hdep { on := 1, ground := .data } (by simp) rfl
        clear hdep hA
        go_simp
        exact hK _ wb (Below.refl _ _) rfl
      · simp at ho
        subst ho
        have y2 : ac.tmps[64]?.getD undef = .pointer (some ⟨sb, 0, none⟩) := hdep { on := 2, ground := .data } (by simp) rfl
        clear hdep hA
        go_simp
        exact hK _ wb (Below.refl _ _) rfl
      · simp at ho
        subst ho
        clear hdep hA
        go_simp
        exact hK _ wb (Below.refl _ _) rfl
      · simp at ho
        subst ho
        have y4 : ac.tmps[66]?.getD undef = .slice (some ⟨sb, 0, none⟩) 2 2 := hdep { on := 4, ground := .data } (by simp) rfl
        clear hdep hA
        go_simp
        exact hK _ wb (Below.refl _ _) rfl
      · simp at ho
        subst ho
        have y5 : ac.tmps[67]?.getD undef = .pointer (some ⟨sb, 6, none⟩) := hdep { on := 5, ground := .data } (by simp) rfl
        clear hdep hA
        go_simp
        exact hK _ wb (Below.refl _ _) rfl
      · simp at ho
        subst ho
        have y0 : ac.tmps[62]?.getD undef = .string ⟨#[115, 117, 98]⟩ := hdep { on := 0, ground := .data } (by simp) rfl
        have y3 : ac.tmps[65]?.getD undef = .agg #[.int .i64 2, .bool false, .int .i64 a, .string ⟨#[]⟩, .slice none 0 0, .slice none 0 0] := hdep { on := 3, ground := .data } (by simp) rfl
        have y6 : ac.tmps[68]?.getD undef = .agg #[.int .i64 2, .bool false, .int .i64 b, .string ⟨#[]⟩, .slice none 0 0, .slice none 0 0] := hdep { on := 6, ground := .data } (by simp) rfl
        clear hdep hA
        go_simp
        refine (RC.out wb).mono ?_
        rintro e w5 ⟨rfl, hb5⟩
        exact hK _ w5 hb5 rfl
      · simp at ho
        subst ho
        have y7 : ac.tmps[69]?.getD undef = .tuple #[.agg #[.int .i64 0, .bool false, .int .i64 0, .string ⟨#[]⟩, .slice none 0 0, .slice none 0 0], .int .i64 9] := hdep { on := 7, ground := .data } (by simp) rfl
        clear hdep hA
        go_simp
        exact hK _ wb (Below.refl _ _) rfl
      · simp at ho
        subst ho
        have y7 : ac.tmps[69]?.getD undef = .tuple #[.agg #[.int .i64 0, .bool false, .int .i64 0, .string ⟨#[]⟩, .slice none 0 0, .slice none 0 0], .int .i64 9] := hdep { on := 7, ground := .data } (by simp) rfl
        clear hdep hA
        go_simp
        exact hK _ wb (Below.refl _ _) rfl
    case s4 =>
      intro o ac wb K' ho hA hB hU hK
      have sv0 : ac.tmps[0]?.getD undef = .string ⟨#[115, 117, 98]⟩ := hA.sl (t := 0) (by decide)
      have sv1 : ac.tmps[1]?.getD undef = .slice (some ⟨sb, 0, none⟩) 2 2 := hA.sl (t := 1) (by decide)
      have sv4 : ac.tmps[4]?.getD undef = .pointer (some ⟨w.heap.size, 0, none⟩) := hA.sl (t := 4) (by decide)
      have g0 := cells_frame hB g0
      have g1 := cells_frame hB g1
      have g2 := cells_frame hB g2
      have g3 := cells_frame hB g3
      have g4 := cells_frame hB g4
      have g5 := cells_frame hB g5
      have g6 := cells_frame hB g6
      have g7 := cells_frame hB g7
      have g8 := cells_frame hB g8
      have g9 := cells_frame hB g9
      have ga := cells_frame hB ga
      have gb := cells_frame hB gb
      simp at ho
      subst ho
      have y8 : ac.tmps[70]?.getD undef = .agg #[.int .i64 0, .bool false, .int .i64 0, .string ⟨#[]⟩, .slice none 0 0, .slice none 0 0] := hU 8 (by omega)
      clear hU hA
      obtain ⟨c0, c1, c2, c3, c4, c5⟩ := (B1.out.later hB hvr).six
      obtain ⟨f0, f1, f2, f3, f4, f5⟩ := (T1.out.later hB hvr).six
      go_simp
      exact hK _ ⟨wb, hB, rfl⟩
    case s4b =>
      intro o ac wb K' ho hA hVV hF hK
      have sv0 : ac.tmps[0]?.getD undef = .string ⟨#[115, 117, 98]⟩ := hA.sl (t := 0) (by decide)
      have sv1 : ac.tmps[1]?.getD undef = .slice (some ⟨sb, 0, none⟩) 2 2 := hA.sl (t := 1) (by decide)
      have sv4 : ac.tmps[4]?.getD undef = .pointer (some ⟨w.heap.size, 0, none⟩) := hA.sl (t := 4) (by decide)
      simp at ho
      subst ho
      have y9 : ac.tmps[71]?.getD undef = .int .i64 9 := hVV 9 (by omega)
      clear hVV hA
      go_simp
      exact hK _ _ ⟨rfl, hF⟩
    case s5 =>
      intro ac wn hA hVV hF
      have hs : slots 11 (fun i => match i with | 0 => 62 | 1 => 63 | 2 => 64 | 3 => 65 | 4 => 66 | 5 => 67 | 6 => 68 | 7 => 69 | 8 => 70 | 9 => 71 | 10 => 5 | _ => 0) = [62, 63, 64, 65, 66, 67, 68, 69, 70, 71, 5] := by rfl
      rw [hs] at hA
      have hac := hA.act (fun t ht => by
        have h8 : t = 62 ∨ t = 63 ∨ t = 64 ∨ t = 65 ∨ t = 66 ∨ t = 67 ∨ t = 68 ∨ t = 69 ∨ t = 70 ∨ t = 71 ∨ t = 5 := by simpa using ht
        rcases h8 with rfl | rfl | rfl | rfl | rfl | rfl | rfl | rfl | rfl | rfl | rfl <;> exact Nat.lt_of_lt_of_le (by decide : _ < 193) (Nat.le_refl 193))
      rw [List.foldl_cons, List.foldl_cons, List.foldl_cons, List.foldl_cons, List.foldl_cons, List.foldl_cons, List.foldl_cons, List.foldl_cons, List.foldl_cons, List.foldl_cons, List.foldl_cons, List.foldl_nil] at hac
      generalize sl ac 62 = x62 at hac
      generalize sl ac 63 = x63 at hac
      generalize sl ac 64 = x64 at hac
      generalize sl ac 65 = x65 at hac
      generalize sl ac 66 = x66 at hac
      generalize sl ac 67 = x67 at hac
      generalize sl ac 68 = x68 at hac
      generalize sl ac 69 = x69 at hac
      generalize sl ac 70 = x70 at hac
      generalize sl ac 71 = x71 at hac
      generalize sl ac 5 = x5 at hac hF
      clear hA hs hVV
      subst hac
      simp only [Act.put, List.setIfInBounds_toArray, List.set_cons_succ, List.set_cons_zero]
      obtain ⟨rfl, w5, hb5, rfl⟩ := hF
      have HV5 := Lib.hid hb5
      clear hb5
      generalize hW : setRow w5 w.heap.size 0 [.int .i64 0, .bool false, .int .i64 0, .string ⟨#[]⟩, .slice none 0 0, .slice none 0 0] = W5
      have HW := Lib.hid hW.symm
      clear hW
      go_wp2_with fail
      exact ret_cells_tmp w5 w.heap.size [.int .i64 0, .bool false, .int .i64 0, .string ⟨#[]⟩, .slice none 0 0, .slice none 0 0] HW.out Tryz.results16 rfl rfl DD.out HU.out Tryz.sizeV ((B1.out.later HV5.out hvr).cells rfl) ⟨.inr ⟨HI.out, rfl⟩, setRow_below _ (Nat.le_refl _) _ _ _ (bstep HB1.out HV5.out HB1.out.size)⟩

set_option maxRecDepth 100000 in
set_option maxHeartbeats 1000000 in
theorem fanswer_mul (a b n : Int) (hO : ∀ w1, Calls Tryz.prog 57 #[.string ⟨#[109, 117, 108]⟩, .int .i64 a, .int .i64 b] w1 fun e w' => outI n e w1 w') (w : World) (sb : Nat) (h : TwoV w sb (.int .i64 2) (.bool false) (.int .i64 a) (.string ⟨#[]⟩) (.slice none 0 0) (.slice none 0 0) (.int .i64 2) (.bool false) (.int .i64 b) (.string ⟨#[]⟩) (.slice none 0 0) (.slice none 0 0)) :
    Calls Tryz.prog 16 #[.string ⟨#[109, 117, 108]⟩, .slice (some ⟨sb, 0, none⟩) 2 2] w fun e w' => recI n e w w' := by
  obtain ⟨dd, hu, hdd⟩ := Tryz.structV
  have DD := Lib.hid hdd
  have HU := Lib.hid hu
  clear hdd hu
  have hb1 := (Below.refl w.heap.size w).alloc (Nat.le_refl _) (.cells zeroV 28)
  have B1 := Lib.hid (Box6.new w zeroV 28)
  have T1 := Lib.hid (Thaw.new w zeroV 28)
  have es : (w.alloc (.cells zeroV 28)).heap.size = w.heap.size + 1 := by simp
  have H1 := Lib.hid (h.later hb1)
  have HB1 := Lib.hid hb1
  have ES := Lib.hid es
  clear h hb1 es
  by_cases hi : inI n
  · have RC := Lib.hid (fun w1 => recI_yes hi (freckoned_any ⟨#[109, 117, 108]⟩ a b n hO w1))
    have HI := Lib.hid hi
    clear hO hi
    go_enter Tryz.func16, Tryz.ntmps16
    go_upto_region 1 with fail
    generalize (w.alloc (.cells zeroV 28)) = v at *
    have hvr : w.heap.size < v.heap.size := by rw [ES.out]; omega
    go_upto_region 20 with fail
    obtain ⟨g0, g1, g2, g3, g4, g5, g6, g7, g8, g9, ga, gb⟩ := H1.out
    refine wp_region_specs4 v 10 (fun i => match i with | 0 => 62 | 1 => 63 | 2 => 64 | 3 => 65 | 4 => 66 | 5 => 67 | 6 => 68 | 7 => 69 | 8 => 70 | 9 => 71 | 10 => 5 | _ => 0) (fun i x wx => match i with | 0 => x = .string ⟨#[109, 117, 108]⟩ | 1 => x = .slice (some ⟨sb, 0, none⟩) 2 2 | 2 => x = .pointer (some ⟨sb, 0, none⟩) | 3 => x = .agg #[.int .i64 2, .bool false, .int .i64 a, .string ⟨#[]⟩, .slice none 0 0, .slice none 0 0] | 4 => x = .slice (some ⟨sb, 0, none⟩) 2 2 | 5 => x = .pointer (some ⟨sb, 6, none⟩) | 6 => x = .agg #[.int .i64 2, .bool false, .int .i64 b, .string ⟨#[]⟩, .slice none 0 0, .slice none 0 0] | 7 => x = .tuple #[.agg #[.int .i64 2, .bool false, .int .i64 n, .string ⟨#[]⟩, .slice none 0 0, .slice none 0 0], .int .i64 0] | 8 => x = .agg #[.int .i64 2, .bool false, .int .i64 n, .string ⟨#[]⟩, .slice none 0 0, .slice none 0 0] | 9 => x = .int .i64 0 | _ => True) (fun i x => match i with | 0 => x = .string ⟨#[109, 117, 108]⟩ | 1 => x = .slice (some ⟨sb, 0, none⟩) 2 2 | 2 => x = .pointer (some ⟨sb, 0, none⟩) | 3 => x = .agg #[.int .i64 2, .bool false, .int .i64 a, .string ⟨#[]⟩, .slice none 0 0, .slice none 0 0] | 4 => x = .slice (some ⟨sb, 0, none⟩) 2 2 | 5 => x = .pointer (some ⟨sb, 6, none⟩) | 6 => x = .agg #[.int .i64 2, .bool false, .int .i64 b, .string ⟨#[]⟩, .slice none 0 0, .slice none 0 0] | 7 => x = .tuple #[.agg #[.int .i64 2, .bool false, .int .i64 n, .string ⟨#[]⟩, .slice none 0 0, .slice none 0 0], .int .i64 0] | 8 => x = .agg #[.int .i64 2, .bool false, .int .i64 n, .string ⟨#[]⟩, .slice none 0 0, .slice none 0 0] | 9 => x = .int .i64 0 | _ => True) (fun wx => ∃ wb, Below v.heap.size v wb ∧ wx = setRow wb w.heap.size 0 [.int .i64 2, .bool false, .int .i64 n, .string ⟨#[]⟩, .slice none 0 0, .slice none 0 0]) (fun x wx => x = .int .i64 0 ∧ ∃ wb, Below v.heap.size v wb ∧ wx = setRow wb w.heap.size 0 [.int .i64 2, .bool false, .int .i64 n, .string ⟨#[]⟩, .slice none 0 0, .slice none 0 0]) (by kernel_rfl) (by kernel_rfl) ?s1 (Below.refl _ _) ?s2 ?sv ?s3 ?s4 ?s4b ?s5
    case s1 => intro i hi; rcases (by omega : i = 0 ∨ i = 1 ∨ i = 2 ∨ i = 3 ∨ i = 4 ∨ i = 5 ∨ i = 6 ∨ i = 7 ∨ i = 8 ∨ i = 9 ∨ i = 10) with rfl | rfl | rfl | rfl | rfl | rfl | rfl | rfl | rfl | rfl | rfl <;> exact Nat.lt_of_lt_of_le (by decide : _ < 193) (Nat.le_refl 193)
    case s2 =>
      intro i x w1 w2 hb hU
      match i, hU with
      | 7, h => exact h
      | 0, h | 1, h | 2, h | 3, h | 4, h | 5, h | 6, h | 8, h | 9, h => exact h
      | (n + 10), _ => trivial
    case sv =>
      intro i x w1 hi hU
      match i, hU with
      | 7, h => exact h
      | 0, h | 1, h | 2, h | 3, h | 4, h | 5, h | 6, h | 8, h | 9, h => exact h
      | (n + 10), _ => trivial
    case s3 =>
      intro i o ac wb K' ho hi hA hB hdep hK
      have sv0 : ac.tmps[0]?.getD undef = .string ⟨#[109, 117, 108]⟩ := hA.sl (t := 0) (by decide)
      have sv1 : ac.tmps[1]?.getD undef = .slice (some ⟨sb, 0, none⟩) 2 2 := hA.sl (t := 1) (by decide)
      have sv4 : ac.tmps[4]?.getD undef = .pointer (some ⟨w.heap.size, 0, none⟩) := hA.sl (t := 4) (by decide)
      have g0 := cells_frame hB g0
      have g1 := cells_frame hB g1
      have g2 := cells_frame hB g2
      have g3 := cells_frame hB g3
      have g4 := cells_frame hB g4
      have g5 := cells_frame hB g5
      have g6 := cells_frame hB g6
      have g7 := cells_frame hB g7
      have g8 := cells_frame hB g8
      have g9 := cells_frame hB g9
      have ga := cells_frame hB ga
      have gb := cells_frame hB gb
      rcases (by omega : i = 0 ∨ i = 1 ∨ i = 2 ∨ i = 3 ∨ i = 4 ∨ i = 5 ∨ i = 6 ∨ i = 7 ∨ i = 8 ∨ i = 9) with rfl | rfl | rfl | rfl | rfl | rfl | rfl | rfl | rfl | rfl
      · simp at ho
        subst ho
        clear hdep hA
        go_simp
        exact hK _ wb (Below.refl _ _) rfl
      · simp at ho
        subst ho
        clear hdep hA
        go_simp
        exact hK _ wb (Below.refl _ _) rfl
      · simp at ho
        subst ho
        have y1 : ac.tmps[63]?.getD undef = .slice (some ⟨sb, 0, none⟩) 2 2 := hdep { on := 1, ground := .data } (by simp) rfl
        clear hdep hA
        go_simp
        exact hK _ wb (Below.refl _ _) rfl
      · simp at ho
        subst ho
        have y2 : ac.tmps[64]?.getD undef = .pointer (some ⟨sb, 0, none⟩) := hdep { on := 2, ground := .data } (by simp) rfl
        clear hdep hA
        go_simp
        exact hK _ wb (Below.refl _ _) rfl
      · simp at ho
        subst ho
        clear hdep hA
        go_simp
        exact hK _ wb (Below.refl _ _) rfl
      · simp at ho
        subst ho
        have y4 : ac.tmps[66]?.getD undef = .slice (some ⟨sb, 0, none⟩) 2 2 := hdep { on := 4, ground := .data } (by simp) rfl
        clear hdep hA
        go_simp
        exact hK _ wb (Below.refl _ _) rfl
      · simp at ho
        subst ho
        have y5 : ac.tmps[67]?.getD undef = .pointer (some ⟨sb, 6, none⟩) := hdep { on := 5, ground := .data } (by simp) rfl
        clear hdep hA
        go_simp
        exact hK _ wb (Below.refl _ _) rfl
      · simp at ho
        subst ho
        have y0 : ac.tmps[62]?.getD undef = .string ⟨#[109, 117, 108]⟩ := hdep { on := 0, ground := .data } (by simp) rfl
        have y3 : ac.tmps[65]?.getD undef = .agg #[.int .i64 2, .bool false, .int .i64 a, .string ⟨#[]⟩, .slice none 0 0, .slice none 0 0] := hdep { on := 3, ground := .data } (by simp) rfl
        have y6 : ac.tmps[68]?.getD undef = .agg #[.int .i64 2, .bool false, .int .i64 b, .string ⟨#[]⟩, .slice none 0 0, .slice none 0 0] := hdep { on := 6, ground := .data } (by simp) rfl
        clear hdep hA
        go_simp
        refine (RC.out wb).mono ?_
        rintro e w5 ⟨rfl, hb5⟩
        exact hK _ w5 hb5 rfl
      · simp at ho
        subst ho
        have y7 : ac.tmps[69]?.getD undef = .tuple #[.agg #[.int .i64 2, .bool false, .int .i64 n, .string ⟨#[]⟩, .slice none 0 0, .slice none 0 0], .int .i64 0] := hdep { on := 7, ground := .data } (by simp) rfl
        clear hdep hA
        go_simp
        exact hK _ wb (Below.refl _ _) rfl
      · simp at ho
        subst ho
        have y7 : ac.tmps[69]?.getD undef = .tuple #[.agg #[.int .i64 2, .bool false, .int .i64 n, .string ⟨#[]⟩, .slice none 0 0, .slice none 0 0], .int .i64 0] := hdep { on := 7, ground := .data } (by simp) rfl
        clear hdep hA
        go_simp
        exact hK _ wb (Below.refl _ _) rfl
    case s4 =>
      intro o ac wb K' ho hA hB hU hK
      have sv0 : ac.tmps[0]?.getD undef = .string ⟨#[109, 117, 108]⟩ := hA.sl (t := 0) (by decide)
      have sv1 : ac.tmps[1]?.getD undef = .slice (some ⟨sb, 0, none⟩) 2 2 := hA.sl (t := 1) (by decide)
      have sv4 : ac.tmps[4]?.getD undef = .pointer (some ⟨w.heap.size, 0, none⟩) := hA.sl (t := 4) (by decide)
      have g0 := cells_frame hB g0
      have g1 := cells_frame hB g1
      have g2 := cells_frame hB g2
      have g3 := cells_frame hB g3
      have g4 := cells_frame hB g4
      have g5 := cells_frame hB g5
      have g6 := cells_frame hB g6
      have g7 := cells_frame hB g7
      have g8 := cells_frame hB g8
      have g9 := cells_frame hB g9
      have ga := cells_frame hB ga
      have gb := cells_frame hB gb
      simp at ho
      subst ho
      have y8 : ac.tmps[70]?.getD undef = .agg #[.int .i64 2, .bool false, .int .i64 n, .string ⟨#[]⟩, .slice none 0 0, .slice none 0 0] := hU 8 (by omega)
      clear hU hA
      obtain ⟨c0, c1, c2, c3, c4, c5⟩ := (B1.out.later hB hvr).six
      obtain ⟨f0, f1, f2, f3, f4, f5⟩ := (T1.out.later hB hvr).six
      go_simp
      exact hK _ ⟨wb, hB, rfl⟩
    case s4b =>
      intro o ac wb K' ho hA hVV hF hK
      have sv0 : ac.tmps[0]?.getD undef = .string ⟨#[109, 117, 108]⟩ := hA.sl (t := 0) (by decide)
      have sv1 : ac.tmps[1]?.getD undef = .slice (some ⟨sb, 0, none⟩) 2 2 := hA.sl (t := 1) (by decide)
      have sv4 : ac.tmps[4]?.getD undef = .pointer (some ⟨w.heap.size, 0, none⟩) := hA.sl (t := 4) (by decide)
      simp at ho
      subst ho
      have y9 : ac.tmps[71]?.getD undef = .int .i64 0 := hVV 9 (by omega)
      clear hVV hA
      go_simp
      exact hK _ _ ⟨rfl, hF⟩
    case s5 =>
      intro ac wn hA hVV hF
      have hs : slots 11 (fun i => match i with | 0 => 62 | 1 => 63 | 2 => 64 | 3 => 65 | 4 => 66 | 5 => 67 | 6 => 68 | 7 => 69 | 8 => 70 | 9 => 71 | 10 => 5 | _ => 0) = [62, 63, 64, 65, 66, 67, 68, 69, 70, 71, 5] := by rfl
      rw [hs] at hA
      have hac := hA.act (fun t ht => by
        have h8 : t = 62 ∨ t = 63 ∨ t = 64 ∨ t = 65 ∨ t = 66 ∨ t = 67 ∨ t = 68 ∨ t = 69 ∨ t = 70 ∨ t = 71 ∨ t = 5 := by simpa using ht
        rcases h8 with rfl | rfl | rfl | rfl | rfl | rfl | rfl | rfl | rfl | rfl | rfl <;> exact Nat.lt_of_lt_of_le (by decide : _ < 193) (Nat.le_refl 193))
      rw [List.foldl_cons, List.foldl_cons, List.foldl_cons, List.foldl_cons, List.foldl_cons, List.foldl_cons, List.foldl_cons, List.foldl_cons, List.foldl_cons, List.foldl_cons, List.foldl_cons, List.foldl_nil] at hac
      generalize sl ac 62 = x62 at hac
      generalize sl ac 63 = x63 at hac
      generalize sl ac 64 = x64 at hac
      generalize sl ac 65 = x65 at hac
      generalize sl ac 66 = x66 at hac
      generalize sl ac 67 = x67 at hac
      generalize sl ac 68 = x68 at hac
      generalize sl ac 69 = x69 at hac
      generalize sl ac 70 = x70 at hac
      generalize sl ac 71 = x71 at hac
      generalize sl ac 5 = x5 at hac hF
      clear hA hs hVV
      subst hac
      simp only [Act.put, List.setIfInBounds_toArray, List.set_cons_succ, List.set_cons_zero]
      obtain ⟨rfl, w5, hb5, rfl⟩ := hF
      have HV5 := Lib.hid hb5
      clear hb5
      generalize hW : setRow w5 w.heap.size 0 [.int .i64 2, .bool false, .int .i64 n, .string ⟨#[]⟩, .slice none 0 0, .slice none 0 0] = W5
      have HW := Lib.hid hW.symm
      clear hW
      go_wp2_with fail
      exact ret_cells_tmp w5 w.heap.size [.int .i64 2, .bool false, .int .i64 n, .string ⟨#[]⟩, .slice none 0 0, .slice none 0 0] HW.out Tryz.results16 rfl rfl DD.out HU.out Tryz.sizeV ((B1.out.later HV5.out hvr).cells rfl) ⟨.inl ⟨HI.out, rfl⟩, setRow_below _ (Nat.le_refl _) _ _ _ (bstep HB1.out HV5.out HB1.out.size)⟩
  · have RC := Lib.hid (fun w1 => recI_no hi (freckoned_any ⟨#[109, 117, 108]⟩ a b n hO w1))
    have HI := Lib.hid hi
    clear hO hi
    go_enter Tryz.func16, Tryz.ntmps16
    go_upto_region 1 with fail
    generalize (w.alloc (.cells zeroV 28)) = v at *
    have hvr : w.heap.size < v.heap.size := by rw [ES.out]; omega
    go_upto_region 20 with fail
    obtain ⟨g0, g1, g2, g3, g4, g5, g6, g7, g8, g9, ga, gb⟩ := H1.out
    refine wp_region_specs4 v 10 (fun i => match i with | 0 => 62 | 1 => 63 | 2 => 64 | 3 => 65 | 4 => 66 | 5 => 67 | 6 => 68 | 7 => 69 | 8 => 70 | 9 => 71 | 10 => 5 | _ => 0) (fun i x wx => match i with | 0 => x = .string ⟨#[109, 117, 108]⟩ | 1 => x = .slice (some ⟨sb, 0, none⟩) 2 2 | 2 => x = .pointer (some ⟨sb, 0, none⟩) | 3 => x = .agg #[.int .i64 2, .bool false, .int .i64 a, .string ⟨#[]⟩, .slice none 0 0, .slice none 0 0] | 4 => x = .slice (some ⟨sb, 0, none⟩) 2 2 | 5 => x = .pointer (some ⟨sb, 6, none⟩) | 6 => x = .agg #[.int .i64 2, .bool false, .int .i64 b, .string ⟨#[]⟩, .slice none 0 0, .slice none 0 0] | 7 => x = .tuple #[.agg #[.int .i64 0, .bool false, .int .i64 0, .string ⟨#[]⟩, .slice none 0 0, .slice none 0 0], .int .i64 9] | 8 => x = .agg #[.int .i64 0, .bool false, .int .i64 0, .string ⟨#[]⟩, .slice none 0 0, .slice none 0 0] | 9 => x = .int .i64 9 | _ => True) (fun i x => match i with | 0 => x = .string ⟨#[109, 117, 108]⟩ | 1 => x = .slice (some ⟨sb, 0, none⟩) 2 2 | 2 => x = .pointer (some ⟨sb, 0, none⟩) | 3 => x = .agg #[.int .i64 2, .bool false, .int .i64 a, .string ⟨#[]⟩, .slice none 0 0, .slice none 0 0] | 4 => x = .slice (some ⟨sb, 0, none⟩) 2 2 | 5 => x = .pointer (some ⟨sb, 6, none⟩) | 6 => x = .agg #[.int .i64 2, .bool false, .int .i64 b, .string ⟨#[]⟩, .slice none 0 0, .slice none 0 0] | 7 => x = .tuple #[.agg #[.int .i64 0, .bool false, .int .i64 0, .string ⟨#[]⟩, .slice none 0 0, .slice none 0 0], .int .i64 9] | 8 => x = .agg #[.int .i64 0, .bool false, .int .i64 0, .string ⟨#[]⟩, .slice none 0 0, .slice none 0 0] | 9 => x = .int .i64 9 | _ => True) (fun wx => ∃ wb, Below v.heap.size v wb ∧ wx = setRow wb w.heap.size 0 [.int .i64 0, .bool false, .int .i64 0, .string ⟨#[]⟩, .slice none 0 0, .slice none 0 0]) (fun x wx => x = .int .i64 9 ∧ ∃ wb, Below v.heap.size v wb ∧ wx = setRow wb w.heap.size 0 [.int .i64 0, .bool false, .int .i64 0, .string ⟨#[]⟩, .slice none 0 0, .slice none 0 0]) (by kernel_rfl) (by kernel_rfl) ?s1 (Below.refl _ _) ?s2 ?sv ?s3 ?s4 ?s4b ?s5
    case s1 => intro i hi; rcases (by omega : i = 0 ∨ i = 1 ∨ i = 2 ∨ i = 3 ∨ i = 4 ∨ i = 5 ∨ i = 6 ∨ i = 7 ∨ i = 8 ∨ i = 9 ∨ i = 10) with rfl | rfl | rfl | rfl | rfl | rfl | rfl | rfl | rfl | rfl | rfl <;> exact Nat.lt_of_lt_of_le (by decide : _ < 193) (Nat.le_refl 193)
    case s2 =>
      intro i x w1 w2 hb hU
      match i, hU with
      | 7, h => exact h
      | 0, h | 1, h | 2, h | 3, h | 4, h | 5, h | 6, h | 8, h | 9, h => exact h
      | (n + 10), _ => trivial
    case sv =>
      intro i x w1 hi hU
      match i, hU with
      | 7, h => exact h
      | 0, h | 1, h | 2, h | 3, h | 4, h | 5, h | 6, h | 8, h | 9, h => exact h
      | (n + 10), _ => trivial
    case s3 =>
      intro i o ac wb K' ho hi hA hB hdep hK
      have sv0 : ac.tmps[0]?.getD undef = .string ⟨#[109, 117, 108]⟩ := hA.sl (t := 0) (by decide)
      have sv1 : ac.tmps[1]?.getD undef = .slice (some ⟨sb, 0, none⟩) 2 2 := hA.sl (t := 1) (by decide)
      have sv4 : ac.tmps[4]?.getD undef = .pointer (some ⟨w.heap.size, 0, none⟩) := hA.sl (t := 4) (by decide)
      have g0 := cells_frame hB g0
      have g1 := cells_frame hB g1
      have g2 := cells_frame hB g2
      have g3 := cells_frame hB g3
      have g4 := cells_frame hB g4
      have g5 := cells_frame hB g5
      have g6 := cells_frame hB g6
      have g7 := cells_frame hB g7
      have g8 := cells_frame hB g8
      have g9 := cells_frame hB g9
      have ga := cells_frame hB ga
      have gb := cells_frame hB gb
      rcases (by omega : i = 0 ∨ i = 1 ∨ i = 2 ∨ i = 3 ∨ i = 4 ∨ i = 5 ∨ i = 6 ∨ i = 7 ∨ i = 8 ∨ i = 9) with rfl | rfl | rfl | rfl | rfl | rfl | rfl | rfl | rfl | rfl
      · simp at ho
        subst ho
        clear hdep hA
        go_simp
        exact hK _ wb (Below.refl _ _) rfl
      · simp at ho
        subst ho
        clear hdep hA
        go_simp
        exact hK _ wb (Below.refl _ _) rfl
      · simp at ho
        subst ho
        have y1 : ac.tmps[63]?.getD undef = .slice (some ⟨sb, 0, none⟩) 2 2 := hdep { on := 1, ground := .data } (by simp) rfl
        clear hdep hA
        go_simp
        exact hK _ wb (Below.refl _ _) rfl
      · simp at ho
        subst ho
        have y2 : ac.tmps[64]?.getD undef = .pointer (some ⟨sb, 0, none⟩) := hdep { on := 2, ground := .data } (by simp) rfl
        clear hdep hA
        go_simp
        exact hK _ wb (Below.refl _ _) rfl
      · simp at ho
        subst ho
        clear hdep hA
        go_simp
        exact hK _ wb (Below.refl _ _) rfl
      · simp at ho
        subst ho
        have y4 : ac.tmps[66]?.getD undef = .slice (some ⟨sb, 0, none⟩) 2 2 := hdep { on := 4, ground := .data } (by simp) rfl
        clear hdep hA
        go_simp
        exact hK _ wb (Below.refl _ _) rfl
      · simp at ho
        subst ho
        have y5 : ac.tmps[67]?.getD undef = .pointer (some ⟨sb, 6, none⟩) := hdep { on := 5, ground := .data } (by simp) rfl
        clear hdep hA
        go_simp
        exact hK _ wb (Below.refl _ _) rfl
      · simp at ho
        subst ho
        have y0 : ac.tmps[62]?.getD undef = .string ⟨#[109, 117, 108]⟩ := hdep { on := 0, ground := .data } (by simp) rfl
        have y3 : ac.tmps[65]?.getD undef = .agg #[.int .i64 2, .bool false, .int .i64 a, .string ⟨#[]⟩, .slice none 0 0, .slice none 0 0] := hdep { on := 3, ground := .data } (by simp) rfl
        have y6 : ac.tmps[68]?.getD undef = .agg #[.int .i64 2, .bool false, .int .i64 b, .string ⟨#[]⟩, .slice none 0 0, .slice none 0 0] := hdep { on := 6, ground := .data } (by simp) rfl
        clear hdep hA
        go_simp
        refine (RC.out wb).mono ?_
        rintro e w5 ⟨rfl, hb5⟩
        exact hK _ w5 hb5 rfl
      · simp at ho
        subst ho
        have y7 : ac.tmps[69]?.getD undef = .tuple #[.agg #[.int .i64 0, .bool false, .int .i64 0, .string ⟨#[]⟩, .slice none 0 0, .slice none 0 0], .int .i64 9] := hdep { on := 7, ground := .data } (by simp) rfl
        clear hdep hA
        go_simp
        exact hK _ wb (Below.refl _ _) rfl
      · simp at ho
        subst ho
        have y7 : ac.tmps[69]?.getD undef = .tuple #[.agg #[.int .i64 0, .bool false, .int .i64 0, .string ⟨#[]⟩, .slice none 0 0, .slice none 0 0], .int .i64 9] := hdep { on := 7, ground := .data } (by simp) rfl
        clear hdep hA
        go_simp
        exact hK _ wb (Below.refl _ _) rfl
    case s4 =>
      intro o ac wb K' ho hA hB hU hK
      have sv0 : ac.tmps[0]?.getD undef = .string ⟨#[109, 117, 108]⟩ := hA.sl (t := 0) (by decide)
      have sv1 : ac.tmps[1]?.getD undef = .slice (some ⟨sb, 0, none⟩) 2 2 := hA.sl (t := 1) (by decide)
      have sv4 : ac.tmps[4]?.getD undef = .pointer (some ⟨w.heap.size, 0, none⟩) := hA.sl (t := 4) (by decide)
      have g0 := cells_frame hB g0
      have g1 := cells_frame hB g1
      have g2 := cells_frame hB g2
      have g3 := cells_frame hB g3
      have g4 := cells_frame hB g4
      have g5 := cells_frame hB g5
      have g6 := cells_frame hB g6
      have g7 := cells_frame hB g7
      have g8 := cells_frame hB g8
      have g9 := cells_frame hB g9
      have ga := cells_frame hB ga
      have gb := cells_frame hB gb
      simp at ho
      subst ho
      have y8 : ac.tmps[70]?.getD undef = .agg #[.int .i64 0, .bool false, .int .i64 0, .string ⟨#[]⟩, .slice none 0 0, .slice none 0 0] := hU 8 (by omega)
      clear hU hA
      obtain ⟨c0, c1, c2, c3, c4, c5⟩ := (B1.out.later hB hvr).six
      obtain ⟨f0, f1, f2, f3, f4, f5⟩ := (T1.out.later hB hvr).six
      go_simp
      exact hK _ ⟨wb, hB, rfl⟩
    case s4b =>
      intro o ac wb K' ho hA hVV hF hK
      have sv0 : ac.tmps[0]?.getD undef = .string ⟨#[109, 117, 108]⟩ := hA.sl (t := 0) (by decide)
      have sv1 : ac.tmps[1]?.getD undef = .slice (some ⟨sb, 0, none⟩) 2 2 := hA.sl (t := 1) (by decide)
      have sv4 : ac.tmps[4]?.getD undef = .pointer (some ⟨w.heap.size, 0, none⟩) := hA.sl (t := 4) (by decide)
      simp at ho
      subst ho
      have y9 : ac.tmps[71]?.getD undef = .int .i64 9 := hVV 9 (by omega)
      clear hVV hA
      go_simp
      exact hK _ _ ⟨rfl, hF⟩
    case s5 =>
      intro ac wn hA hVV hF
      have hs : slots 11 (fun i => match i with | 0 => 62 | 1 => 63 | 2 => 64 | 3 => 65 | 4 => 66 | 5 => 67 | 6 => 68 | 7 => 69 | 8 => 70 | 9 => 71 | 10 => 5 | _ => 0) = [62, 63, 64, 65, 66, 67, 68, 69, 70, 71, 5] := by rfl
      rw [hs] at hA
      have hac := hA.act (fun t ht => by
        have h8 : t = 62 ∨ t = 63 ∨ t = 64 ∨ t = 65 ∨ t = 66 ∨ t = 67 ∨ t = 68 ∨ t = 69 ∨ t = 70 ∨ t = 71 ∨ t = 5 := by simpa using ht
        rcases h8 with rfl | rfl | rfl | rfl | rfl | rfl | rfl | rfl | rfl | rfl | rfl <;> exact Nat.lt_of_lt_of_le (by decide : _ < 193) (Nat.le_refl 193))
      rw [List.foldl_cons, List.foldl_cons, List.foldl_cons, List.foldl_cons, List.foldl_cons, List.foldl_cons, List.foldl_cons, List.foldl_cons, List.foldl_cons, List.foldl_cons, List.foldl_cons, List.foldl_nil] at hac
      generalize sl ac 62 = x62 at hac
      generalize sl ac 63 = x63 at hac
      generalize sl ac 64 = x64 at hac
      generalize sl ac 65 = x65 at hac
      generalize sl ac 66 = x66 at hac
      generalize sl ac 67 = x67 at hac
      generalize sl ac 68 = x68 at hac
      generalize sl ac 69 = x69 at hac
      generalize sl ac 70 = x70 at hac
      generalize sl ac 71 = x71 at hac
      generalize sl ac 5 = x5 at hac hF
      clear hA hs hVV
      subst hac
      simp only [Act.put, List.setIfInBounds_toArray, List.set_cons_succ, List.set_cons_zero]
      obtain ⟨rfl, w5, hb5, rfl⟩ := hF
      have HV5 := Lib.hid hb5
      clear hb5
      generalize hW : setRow w5 w.heap.size 0 [.int .i64 0, .bool false, .int .i64 0, .string ⟨#[]⟩, .slice none 0 0, .slice none 0 0] = W5
      have HW := Lib.hid hW.symm
      clear hW
      go_wp2_with fail
      exact ret_cells_tmp w5 w.heap.size [.int .i64 0, .bool false, .int .i64 0, .string ⟨#[]⟩, .slice none 0 0, .slice none 0 0] HW.out Tryz.results16 rfl rfl DD.out HU.out Tryz.sizeV ((B1.out.later HV5.out hvr).cells rfl) ⟨.inr ⟨HI.out, rfl⟩, setRow_below _ (Nat.le_refl _) _ _ _ (bstep HB1.out HV5.out HB1.out.size)⟩

end Go.Proofs.YthjdeckdklhphaaGreatDoor
