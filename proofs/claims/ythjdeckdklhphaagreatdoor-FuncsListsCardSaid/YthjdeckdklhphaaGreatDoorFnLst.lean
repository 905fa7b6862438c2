/-
  Package funcs' checked, and length of a list.
-/
import Derived.Test.YthjdeckdklhphaaGreatDoorFnLaidM
import Derived.Test.YthjdeckdklhphaaGreatDoorSpecsEM
import Derived.Test.YthjdeckdklhphaaGreatDoorTCheck
import Derived.Test.YthjdeckdklhphaaGreatDoorAwakeM
set_option linter.unusedVariables false
set_option linter.unusedSimpArgs false
namespace Go.Proofs.YthjdeckdklhphaaGreatDoor
open Go.RowKit

set_option maxRecDepth 100000 in
set_option maxHeartbeats 2000000 in
theorem fchecked_any {w0 : World} {R : Nat → Prop} {t : T} {cs : Array Value} (h : Lies w0 R t cs) (hz : t.size ≤ 4611686018427387904) (w : World) (hw : Below w0.heap.size w0 w) :
    Calls Tryz.prog 37 #[.agg cs] w fun e w' => e = .returned (.tuple #[.agg cs, .int .i64 t.check]) ∧ Below w.heap.size w w' := by
  obtain ⟨c0, c1, c2, c3, c4, c4l, c4c, c5, c5l, c5c, rfl⟩ := h.six
  have CK := Lib.hid (fun w' hw' => tCheck_any h w' hw' hz)
  generalize t.check = ck at CK ⊢
  clear h hz
  obtain ⟨dd, hu, hdd⟩ := Tryz.structV
  have DD := Lib.hid hdd
  have HU := Lib.hid hu
  clear hdd hu
  have hbv : Below w.heap.size w ((w.alloc (.cells #[.int .i64 c0, .bool c1, .int .i64 c2, .string c3, .slice c4 c4l c4c, .slice c5 c5l c5c] 28)).alloc (.cells zeroV 28)) := (((Below.refl _ _).alloc (Nat.le_refl _) _).alloc (by simp) _)
  have b0 : Box6 ((w.alloc (.cells #[.int .i64 c0, .bool c1, .int .i64 c2, .string c3, .slice c4 c4l c4c, .slice c5 c5l c5c] 28)).alloc (.cells zeroV 28)) (w.heap.size) #[.int .i64 c0, .bool c1, .int .i64 c2, .string c3, .slice c4 c4l c4c, .slice c5 c5l c5c] := by
    have := Box6.new w #[.int .i64 c0, .bool c1, .int .i64 c2, .string c3, .slice c4 c4l c4c, .slice c5 c5l c5c] 28
    exact this.later ((Below.refl (w.heap.size + 1) _).alloc (by simp) _) (by omega)
  have b1 : Box6 ((w.alloc (.cells #[.int .i64 c0, .bool c1, .int .i64 c2, .string c3, .slice c4 c4l c4c, .slice c5 c5l c5c] 28)).alloc (.cells zeroV 28)) (w.heap.size + 1) zeroV := by
    have := Box6.new (w.alloc (.cells #[.int .i64 c0, .bool c1, .int .i64 c2, .string c3, .slice c4 c4l c4c, .slice c5 c5l c5c] 28)) zeroV 28
    simp only [World.size_alloc] at this
    exact this
  have tz := Thaw.new (w.alloc (.cells #[.int .i64 c0, .bool c1, .int .i64 c2, .string c3, .slice c4 c4l c4c, .slice c5 c5l c5c] 28)) zeroV 28
  simp only [World.size_alloc] at tz
  have es : ((w.alloc (.cells #[.int .i64 c0, .bool c1, .int .i64 c2, .string c3, .slice c4 c4l c4c, .slice c5 c5l c5c] 28)).alloc (.cells zeroV 28)).heap.size = w.heap.size + 2 := by simp
  have B0 := Lib.hid b0
  have B1 := Lib.hid b1
  have TZ := Lib.hid tz
  have HV := Lib.hid hbv
  have ES := Lib.hid es
  clear hbv tz es b0 b1
  go_enter Tryz.func37, Tryz.ntmps37
  go_upto_region 1 with fail
  generalize ((w.alloc (.cells #[.int .i64 c0, .bool c1, .int .i64 c2, .string c3, .slice c4 c4l c4c, .slice c5 c5l c5c] 28)).alloc (.cells zeroV 28)) = v at *
  have hvs := Nat.le_of_eq ES.out.symm
  have HWV := Lib.hid (bstep hw HV.out hw.size)
  obtain ⟨x0, x1, x2, x3, x4, x5⟩ := B0.out.six
  refine wp_region_specs4 v 3 (fun i => match i with | 0 => 4 | 1 => 5 | 2 => 6 | 3 => 3 | _ => 0) (fun i x wx => match i with | 0 => x = .agg #[.int .i64 c0, .bool c1, .int .i64 c2, .string c3, .slice c4 c4l c4c, .slice c5 c5l c5c] | 1 => x = .agg #[.int .i64 c0, .bool c1, .int .i64 c2, .string c3, .slice c4 c4l c4c, .slice c5 c5l c5c] | 2 => x = .int .i64 ck | _ => True) (fun i x => match i with | 0 => x = .agg #[.int .i64 c0, .bool c1, .int .i64 c2, .string c3, .slice c4 c4l c4c, .slice c5 c5l c5c] | 1 => x = .agg #[.int .i64 c0, .bool c1, .int .i64 c2, .string c3, .slice c4 c4l c4c, .slice c5 c5l c5c] | 2 => x = .int .i64 ck | _ => True) (fun wx => ∃ wb, Below v.heap.size v wb ∧ wx = setRow wb (w.heap.size + 1) 0 [.int .i64 c0, .bool c1, .int .i64 c2, .string c3, .slice c4 c4l c4c, .slice c5 c5l c5c]) (fun x wx => x = .int .i64 ck ∧ ∃ wb, Below v.heap.size v wb ∧ wx = setRow wb (w.heap.size + 1) 0 [.int .i64 c0, .bool c1, .int .i64 c2, .string c3, .slice c4 c4l c4c, .slice c5 c5l c5c]) (by kernel_rfl) (by kernel_rfl) ?s1 (Below.refl _ _) ?s2 ?sv ?s3 ?s4 ?s4b ?s5
  case s1 => intro i hi; rcases (by omega : i = 0 ∨ i = 1 ∨ i = 2 ∨ i = 3) with rfl | rfl | rfl | rfl <;> exact Nat.lt_of_lt_of_le (by decide : _ < 7) (Nat.le_refl 7)
  case s2 =>
    intro i x w1 w2 hb hU
    match i, hU with
    | 2, h => exact h
    | 0, h | 1, h => exact h
    | (n + 3), _ => trivial
  case sv =>
    intro i x w1 hi hU
    match i, hU with
    | 2, h => exact h
    | 0, h | 1, h => exact h
    | (n + 3), _ => trivial
  case s3 =>
    intro i o ac wb K' ho hi hA hB hdep hK
    have sv1 : ac.tmps[1]?.getD undef = .pointer (some ⟨w.heap.size, 0, none⟩) := hA.sl (t := 1) (by decide)
    have sv2 : ac.tmps[2]?.getD undef = .pointer (some ⟨w.heap.size + 1, 0, none⟩) := hA.sl (t := 2) (by decide)
    have x0 := cells_frame hB x0
    have x1 := cells_frame hB x1
    have x2 := cells_frame hB x2
    have x3 := cells_frame hB x3
    have x4 := cells_frame hB x4
    have x5 := cells_frame hB x5
    rcases (by omega : i = 0 ∨ i = 1 ∨ i = 2) with rfl | rfl | rfl
    · simp at ho
      subst ho
      clear hdep hA
      go_simp
      exact hK _ wb (Below.refl _ _) rfl
    · simp at ho
      subst ho
      clear hdep hA
      go_simp
      exact hK _ wb (Below.refl _ _) rfl
    · simp at ho
      subst ho
      have y1 : ac.tmps[5]?.getD undef = .agg #[.int .i64 c0, .bool c1, .int .i64 c2, .string c3, .slice c4 c4l c4c, .slice c5 c5l c5c] := hdep { on := 1, ground := .data } (by simp) rfl
      clear hdep hA
      go_simp
      refine (CK.out wb (bstep HWV.out hB HWV.out.size)).mono ?_
      rintro e w5 ⟨rfl, hb5⟩
      exact hK _ w5 hb5 rfl
  case s4 =>
    intro o ac wb K' ho hA hB hU hK
    have sv1 : ac.tmps[1]?.getD undef = .pointer (some ⟨w.heap.size, 0, none⟩) := hA.sl (t := 1) (by decide)
    have sv2 : ac.tmps[2]?.getD undef = .pointer (some ⟨w.heap.size + 1, 0, none⟩) := hA.sl (t := 2) (by decide)
    have x0 := cells_frame hB x0
    have x1 := cells_frame hB x1
    have x2 := cells_frame hB x2
    have x3 := cells_frame hB x3
    have x4 := cells_frame hB x4
    have x5 := cells_frame hB x5
    simp at ho
    subst ho
    have y0 : ac.tmps[4]?.getD undef = .agg #[.int .i64 c0, .bool c1, .int .i64 c2, .string c3, .slice c4 c4l c4c, .slice c5 c5l c5c] := hU 0 (by omega)
    clear hU hA
    obtain ⟨c0', c1', c2', c3', c4', c5'⟩ := (B1.out.later hB (by omega)).six
    obtain ⟨f0, f1, f2, f3, f4, f5⟩ := (TZ.out.later hB (by omega)).six
    go_simp
    exact hK _ ⟨wb, hB, rfl⟩
  case s4b =>
    intro o ac wb K' ho hA hVV hF hK
    have sv1 : ac.tmps[1]?.getD undef = .pointer (some ⟨w.heap.size, 0, none⟩) := hA.sl (t := 1) (by decide)
    have sv2 : ac.tmps[2]?.getD undef = .pointer (some ⟨w.heap.size + 1, 0, none⟩) := hA.sl (t := 2) (by decide)
    simp at ho
    subst ho
    have y2 : ac.tmps[6]?.getD undef = .int .i64 ck := hVV 2 (by omega)
    clear hVV hA
    go_simp
    exact hK _ _ ⟨rfl, hF⟩
  case s5 =>
    intro ac wn hA hVV hF
    have hs : slots 4 (fun i => match i with | 0 => 4 | 1 => 5 | 2 => 6 | 3 => 3 | _ => 0) = [4, 5, 6, 3] := by rfl
    rw [hs] at hA
    have hac := hA.act (fun t ht => by
      have h8 : t = 4 ∨ t = 5 ∨ t = 6 ∨ t = 3 := by simpa using ht
      rcases h8 with rfl | rfl | rfl | rfl <;> exact Nat.lt_of_lt_of_le (by decide : _ < 7) (Nat.le_refl 7))
    rw [List.foldl_cons, List.foldl_cons, List.foldl_cons, List.foldl_cons, List.foldl_nil] at hac
    generalize sl ac 4 = x4 at hac
    generalize sl ac 5 = x5 at hac
    generalize sl ac 6 = x6 at hac
    generalize sl ac 3 = x3 at hac hF
    clear hA hs hVV
    subst hac
    simp only [Act.put, List.setIfInBounds_toArray, List.set_cons_succ, List.set_cons_zero]
    obtain ⟨rfl, w5, hb5, rfl⟩ := hF
    have HV5 := Lib.hid hb5
    clear hb5
    generalize hW : setRow w5 (w.heap.size + 1) 0 [.int .i64 c0, .bool c1, .int .i64 c2, .string c3, .slice c4 c4l c4c, .slice c5 c5l c5c] = W5
    have HW := Lib.hid hW.symm
    clear hW
    go_wp2_with fail
    exact ret_cells_tmp w5 (w.heap.size + 1) [.int .i64 c0, .bool c1, .int .i64 c2, .string c3, .slice c4 c4l c4c, .slice c5 c5l c5c] HW.out Tryz.results37 rfl rfl DD.out HU.out Tryz.sizeV ((B1.out.later HV5.out (by omega)).cells rfl) ⟨rfl, setRow_below _ (by omega) _ _ _ (bstep HV.out HV5.out HV.out.size)⟩

set_option maxRecDepth 100000 in
set_option maxHeartbeats 2000000 in
theorem flength_list {w0 : World} {R : Nat → Prop} {ts : List T} {cs : Array Value} (h : Lies w0 R (T.listOf ts) cs) (w : World) :
    Calls Tryz.prog 39 #[.agg cs] w fun e w' => e = .returned (.tuple #[.agg #[.int .i64 2, .bool false, .int .i64 (ts.length : Int), .string ⟨#[]⟩, .slice none 0 0, .slice none 0 0], .int .i64 0]) ∧ Below w.heap.size w w' := by
  obtain ⟨c0, c1, c2, c3, c4, c4l, c4c, c5, c5l, c5c, rfl⟩ := h.six
  have hk : c0 = 4 ∧ c4l = ts.length := by cases h; exact ⟨rfl, rfl⟩
  obtain ⟨rfl, rfl⟩ := hk
  clear h
  obtain ⟨dd, hu, hdd⟩ := Tryz.structV
  have DD := Lib.hid hdd
  have HU := Lib.hid hu
  clear hdd hu
  have hbv : Below w.heap.size w ((w.alloc (.cells #[.int .i64 4, .bool c1, .int .i64 c2, .string c3, .slice c4 ts.length c4c, .slice c5 c5l c5c] 28)).alloc (.cells zeroV 28)) := (((Below.refl _ _).alloc (Nat.le_refl _) _).alloc (by simp) _)
  have b0 : Box6 ((w.alloc (.cells #[.int .i64 4, .bool c1, .int .i64 c2, .string c3, .slice c4 ts.length c4c, .slice c5 c5l c5c] 28)).alloc (.cells zeroV 28)) (w.heap.size) #[.int .i64 4, .bool c1, .int .i64 c2, .string c3, .slice c4 ts.length c4c, .slice c5 c5l c5c] := by
    have := Box6.new w #[.int .i64 4, .bool c1, .int .i64 c2, .string c3, .slice c4 ts.length c4c, .slice c5 c5l c5c] 28
    exact this.later ((Below.refl (w.heap.size + 1) _).alloc (by simp) _) (by omega)
  have b1 : Box6 ((w.alloc (.cells #[.int .i64 4, .bool c1, .int .i64 c2, .string c3, .slice c4 ts.length c4c, .slice c5 c5l c5c] 28)).alloc (.cells zeroV 28)) (w.heap.size + 1) zeroV := by
    have := Box6.new (w.alloc (.cells #[.int .i64 4, .bool c1, .int .i64 c2, .string c3, .slice c4 ts.length c4c, .slice c5 c5l c5c] 28)) zeroV 28
    simp only [World.size_alloc] at this
    exact this
  have tz := Thaw.new (w.alloc (.cells #[.int .i64 4, .bool c1, .int .i64 c2, .string c3, .slice c4 ts.length c4c, .slice c5 c5l c5c] 28)) zeroV 28
  simp only [World.size_alloc] at tz
  have es : ((w.alloc (.cells #[.int .i64 4, .bool c1, .int .i64 c2, .string c3, .slice c4 ts.length c4c, .slice c5 c5l c5c] 28)).alloc (.cells zeroV 28)).heap.size = w.heap.size + 2 := by simp
  have B0 := Lib.hid b0
  have B1 := Lib.hid b1
  have TZ := Lib.hid tz
  have HV := Lib.hid hbv
  have ES := Lib.hid es
  clear hbv tz es b0 b1
  go_enter Tryz.func39, Tryz.ntmps39
  go_upto_region 1 with fail
  generalize ((w.alloc (.cells #[.int .i64 4, .bool c1, .int .i64 c2, .string c3, .slice c4 ts.length c4c, .slice c5 c5l c5c] 28)).alloc (.cells zeroV 28)) = v at *
  have hvs := Nat.le_of_eq ES.out.symm
  obtain ⟨x0, x1, x2, x3, x4, x5⟩ := B0.out.six
  go_upto_region 10 with fail
  go_wp2_with (go_at_call 7; refine (tInt_any _ _).mono ?_; rintro e w5 ⟨rfl, hb5⟩; have HV5 := Lib.hid hb5; obtain ⟨c0', c1', c2', c3', c4', c5'⟩ := (B1.out.later hb5 (by omega)).six; obtain ⟨f0, f1, f2, f3, f4, f5⟩ := (TZ.out.later hb5 (by omega)).six; clear hb5)
  exact ret_cells_tmp w5 (w.heap.size + 1) [.int .i64 2, .bool false, .int .i64 (ts.length : Int), .string ⟨#[]⟩, .slice none 0 0, .slice none 0 0] rfl Tryz.results39 rfl rfl DD.out HU.out Tryz.sizeV ((B1.out.later HV5.out (by omega)).cells rfl) ⟨rfl, setRow_below _ (by omega) _ _ _ (bstep HV.out HV5.out HV.out.size)⟩

end Go.Proofs.YthjdeckdklhphaaGreatDoor
