/-
  Package funcs' answers of len, get, has.
-/
import Derived.Test.YthjdeckdklhphaaGreatDoorFnAnsL
set_option linter.unusedVariables false
set_option linter.unusedSimpArgs false
namespace Go.Proofs.YthjdeckdklhphaaGreatDoor
open Go.RowKit

set_option maxRecDepth 100000 in
set_option maxHeartbeats 2000000 in
theorem fanswer_len {w0 : World} {R : Nat → Prop} {a0 : Int} {a1 : Bool} {a2 : Int} {a3 : ByteArray} {a4 : Option Addr} {a4l a4c : Nat} {a5 : Option Addr} {a5l a5c : Nat} {ts : List T} (h : Lies w0 R (T.listOf ts) #[.int .i64 a0, .bool a1, .int .i64 a2, .string a3, .slice a4 a4l a4c, .slice a5 a5l a5c]) (sb : Nat) (w : World) (hx : Box6 w sb #[.int .i64 a0, .bool a1, .int .i64 a2, .string a3, .slice a4 a4l a4c, .slice a5 a5l a5c]) (hsb : sb < w.heap.size) :
    Calls Tryz.prog 16 #[.string ⟨#[108, 101, 110]⟩, .slice (some ⟨sb, 0, none⟩) 1 1] w fun e w' => e = .returned (.tuple #[.agg #[.int .i64 2, .bool false, .int .i64 (ts.length : Int), .string ⟨#[]⟩, .slice none 0 0, .slice none 0 0], .int .i64 0]) ∧ Below w.heap.size w w' := by
  have FN := Lib.hid (fun w' => flength_list h w')
  generalize (ts.length : Int) = tn at FN ⊢
  clear h
  obtain ⟨dd, hu, hdd⟩ := Tryz.structV
  have DD := Lib.hid hdd
  have HU := Lib.hid hu
  clear hdd hu
  have hbv : Below w.heap.size w (w.alloc (.cells zeroV 28)) := ((Below.refl _ _).alloc (Nat.le_refl _) _)
  have b0 : Box6 (w.alloc (.cells zeroV 28)) (w.heap.size) zeroV := by
    have := Box6.new w zeroV 28
    exact this
  have tz := Thaw.new w zeroV 28
  have es : (w.alloc (.cells zeroV 28)).heap.size = w.heap.size + 1 := by simp
  have B0 := Lib.hid b0
  have TZ := Lib.hid tz
  have HV := Lib.hid hbv
  have ES := Lib.hid es
  clear hbv tz es b0
  have HX := Lib.hid (hx.later HV.out hsb)
  clear hx
  go_enter Tryz.func16, Tryz.ntmps16
  go_upto_region 1 with fail
  generalize (w.alloc (.cells zeroV 28)) = v at *
  have hvs := Nat.le_of_eq ES.out.symm
  obtain ⟨x0, x1, x2, x3, x4, x5⟩ := HX.out.six
  go_upto_region 43 with fail
  go_wp2_with (go_at_call 39; refine (FN.out _).mono ?_; rintro e w6 ⟨rfl, hb6⟩; have HV6 := Lib.hid hb6; obtain ⟨c0', c1', c2', c3', c4', c5'⟩ := (B0.out.later HV6.out (by omega)).six; obtain ⟨f0, f1, f2, f3, f4, f5⟩ := (TZ.out.later HV6.out (by omega)).six; clear hb6)
  exact ret_cells_tmp w6 w.heap.size [.int .i64 2, .bool false, .int .i64 tn, .string ⟨#[]⟩, .slice none 0 0, .slice none 0 0] rfl Tryz.results16 rfl rfl DD.out HU.out Tryz.sizeV ((B0.out.later HV6.out (by omega)).cells rfl) ⟨rfl, setRow_below _ (by omega) _ _ _ (bstep HV.out HV6.out HV.out.size)⟩

set_option maxRecDepth 100000 in
set_option maxHeartbeats 2000000 in
theorem fanswer_getL {w0 : World} {R : Nat → Prop} {a0 : Int} {a1 : Bool} {a2 : Int} {a3 : ByteArray} {a4 : Option Addr} {a4l a4c : Nat} {a5 : Option Addr} {a5l a5c : Nat} {ts : List T} (h : Lies w0 R (T.listOf ts) #[.int .i64 a0, .bool a1, .int .i64 a2, .string a3, .slice a4 a4l a4c, .slice a5 a5l a5c]) (ix : Nat) (hix : ix < ts.length) (sb : Nat) (w : World) (hw : Below w0.heap.size w0 w) (hx : TwoV w sb (.int .i64 a0) (.bool a1) (.int .i64 a2) (.string a3) (.slice a4 a4l a4c) (.slice a5 a5l a5c) (.int .i64 2) (.bool false) (.int .i64 (ix : Int)) (.string ⟨#[]⟩) (.slice none 0 0) (.slice none 0 0)) :
    Calls Tryz.prog 16 #[.string ⟨#[103, 101, 116]⟩, .slice (some ⟨sb, 0, none⟩) 2 2] w (ValE w 0 ts[ix]) := by
  have FN := Lib.hid (fun w' hw' => funder_list h ix hix w' hw')
  generalize ts[ix] = rr at FN ⊢
  clear h hix
  obtain ⟨dd, hu, hdd⟩ := Tryz.structV
  have DD := Lib.hid hdd
  have HU := Lib.hid hu
  clear hdd hu
  have hbv : Below w.heap.size w (w.alloc (.cells zeroV 28)) := ((Below.refl _ _).alloc (Nat.le_refl _) _)
  have b0 : Box6 (w.alloc (.cells zeroV 28)) (w.heap.size) zeroV := by
    have := Box6.new w zeroV 28
    exact this
  have tz := Thaw.new w zeroV 28
  have es : (w.alloc (.cells zeroV 28)).heap.size = w.heap.size + 1 := by simp
  have B0 := Lib.hid b0
  have TZ := Lib.hid tz
  have HV := Lib.hid hbv
  have ES := Lib.hid es
  clear hbv tz es b0
  have HX := Lib.hid (hx.later HV.out)
  clear hx
  go_enter Tryz.func16, Tryz.ntmps16
  go_upto_region 1 with fail
  generalize (w.alloc (.cells zeroV 28)) = v at *
  have hvs := Nat.le_of_eq ES.out.symm
  have HWV := Lib.hid (bstep hw HV.out hw.size)
  go_upto_region 45 with fail
  obtain ⟨g0, g1, g2, g3, g4, g5, g6, g7, g8, g9, ga, gb⟩ := HX.out
  refine wp_region_specs4 v 9 (fun i => match i with | 0 => 164 | 1 => 165 | 2 => 166 | 3 => 167 | 4 => 168 | 5 => 169 | 6 => 170 | 7 => 171 | 8 => 172 | 9 => 5 | _ => 0) (fun i x wx => match i with | 0 => x = .slice (some ⟨sb, 0, none⟩) 2 2 | 1 => x = .pointer (some ⟨sb, 0, none⟩) | 2 => x = .agg #[.int .i64 a0, .bool a1, .int .i64 a2, .string a3, .slice a4 a4l a4c, .slice a5 a5l a5c] | 3 => x = .slice (some ⟨sb, 0, none⟩) 2 2 | 4 => x = .pointer (some ⟨sb, 6, none⟩) | 5 => x = .agg #[.int .i64 2, .bool false, .int .i64 (ix : Int), .string ⟨#[]⟩, .slice none 0 0, .slice none 0 0] | 6 => ∃ ds : Array Value, x = .tuple #[.agg ds, .int .i64 0] ∧ Lies wx (fun b => v.heap.size ≤ b) rr ds | 7 => ∃ ds : Array Value, x = .agg ds ∧ Lies wx (fun b => v.heap.size ≤ b) rr ds | 8 => x = .int .i64 0 | _ => True) (fun i x => match i with | 0 => x = .slice (some ⟨sb, 0, none⟩) 2 2 | 1 => x = .pointer (some ⟨sb, 0, none⟩) | 2 => x = .agg #[.int .i64 a0, .bool a1, .int .i64 a2, .string a3, .slice a4 a4l a4c, .slice a5 a5l a5c] | 3 => x = .slice (some ⟨sb, 0, none⟩) 2 2 | 4 => x = .pointer (some ⟨sb, 6, none⟩) | 5 => x = .agg #[.int .i64 2, .bool false, .int .i64 (ix : Int), .string ⟨#[]⟩, .slice none 0 0, .slice none 0 0] | 6 => ∃ ds : Array Value, x = .tuple #[.agg ds, .int .i64 0] | 7 => True | 8 => x = .int .i64 0 | _ => True) (fun wx => ∃ (vs : List Value) (wb : World), vs.length = 6 ∧ Below v.heap.size v wb ∧ Lies wb (fun b => v.heap.size ≤ b) rr vs.toArray ∧ wx = setRow wb w.heap.size 0 vs) (fun x wx => x = .int .i64 0 ∧ ∃ (vs : List Value) (wb : World), vs.length = 6 ∧ Below v.heap.size v wb ∧ Lies wb (fun b => v.heap.size ≤ b) rr vs.toArray ∧ wx = setRow wb w.heap.size 0 vs) (by kernel_rfl) (by kernel_rfl) ?s1 (Below.refl _ _) ?s2 ?sv ?s3 ?s4 ?s4b ?s5
  case s1 => intro i hi; rcases (by omega : i = 0 ∨ i = 1 ∨ i = 2 ∨ i = 3 ∨ i = 4 ∨ i = 5 ∨ i = 6 ∨ i = 7 ∨ i = 8 ∨ i = 9) with rfl | rfl | rfl | rfl | rfl | rfl | rfl | rfl | rfl | rfl <;> exact Nat.lt_of_lt_of_le (by decide : _ < 193) (Nat.le_refl 193)
  case s2 =>
    intro i x w1 w2 hb hU
    match i, hU with
    | 6, ⟨ds, e, hL⟩ => exact ⟨ds, e, hL.later hb⟩
    | 7, ⟨ds, e, hL⟩ => exact ⟨ds, e, hL.later hb⟩
    | 0, h | 1, h | 2, h | 3, h | 4, h | 5, h | 8, h => exact h
    | (n + 9), _ => trivial
  case sv =>
    intro i x w1 hi hU
    match i, hU with
    | 6, ⟨ds, e, hL⟩ => exact ⟨ds, e⟩
    | 7, _ => trivial
    | 0, h | 1, h | 2, h | 3, h | 4, h | 5, h | 8, h => exact h
    | (n + 9), _ => trivial
  case s3 =>
    intro i o ac wb K' ho hi hA hB hdep hK
    have sv0 : ac.tmps[0]?.getD undef = .string ⟨#[103, 101, 116]⟩ := hA.sl (t := 0) (by decide)
    have sv1 : ac.tmps[1]?.getD undef = .slice (some ⟨sb, 0, none⟩) 2 2 := hA.sl (t := 1) (by decide)
    have sv4 : ac.tmps[4]?.getD undef = .pointer (some ⟨w.heap.size, 0, none⟩) := hA.sl (t := 4) (by decide)
    have g0 := cells_frame hB g0
    have g1 := cells_frame hB g1
    have g2 := cells_frame hB g2
    have g3 := cells_frame hB g3
    have g4 := cells_frame hB g4
    have g5 := cells_frame hB g5
    have g6 := cells_frame hB g6
    have g7 := cells_frame hB g7
    have g8 := cells_frame hB g8
    have g9 := cells_frame hB g9
    have ga := cells_frame hB ga
    have gb := cells_frame hB gb
    rcases (by omega : i = 0 ∨ i = 1 ∨ i = 2 ∨ i = 3 ∨ i = 4 ∨ i = 5 ∨ i = 6 ∨ i = 7 ∨ i = 8) with rfl | rfl | rfl | rfl | rfl | rfl | rfl | rfl | rfl
    · simp at ho
      subst ho
      clear hdep hA
      go_simp
      exact hK _ wb (Below.refl _ _) rfl
    · simp at ho
      subst ho
      have y0 : ac.tmps[164]?.getD undef = .slice (some ⟨sb, 0, none⟩) 2 2 := hdep { on := 0, ground := .data } (by simp) rfl
      clear hdep hA
      go_simp
      exact hK _ wb (Below.refl _ _) rfl
    · simp at ho
      subst ho
      have y1 : ac.tmps[165]?.getD undef = .pointer (some ⟨sb, 0, none⟩) := hdep { on := 1, ground := .data } (by simp) rfl
      clear hdep hA
      go_simp
      exact hK _ wb (Below.refl _ _) rfl
    · simp at ho
      subst ho
      clear hdep hA
      go_simp
      exact hK _ wb (Below.refl _ _) rfl
    · simp at ho
      subst ho
      have y3 : ac.tmps[167]?.getD undef = .slice (some ⟨sb, 0, none⟩) 2 2 := hdep { on := 3, ground := .data } (by simp) rfl
      clear hdep hA
      go_simp
      exact hK _ wb (Below.refl _ _) rfl
    · simp at ho
      subst ho
      have y4 : ac.tmps[168]?.getD undef = .pointer (some ⟨sb, 6, none⟩) := hdep { on := 4, ground := .data } (by simp) rfl
      clear hdep hA
      go_simp
      exact hK _ wb (Below.refl _ _) rfl
    · simp at ho
      subst ho
      have y2 : ac.tmps[166]?.getD undef = .agg #[.int .i64 a0, .bool a1, .int .i64 a2, .string a3, .slice a4 a4l a4c, .slice a5 a5l a5c] := hdep { on := 2, ground := .data } (by simp) rfl
      have y5 : ac.tmps[169]?.getD undef = .agg #[.int .i64 2, .bool false, .int .i64 (ix : Int), .string ⟨#[]⟩, .slice none 0 0, .slice none 0 0] := hdep { on := 5, ground := .data } (by simp) rfl
      clear hdep hA
      go_simp
      refine (FN.out wb (bstep HWV.out hB HWV.out.size)).mono ?_
      rintro e w5 ⟨vs, rfl, hL, hb5⟩
      have hsB := hB.size
      exact hK _ w5 hb5 ⟨vs, rfl, hL.weaken fun b hb => by omega⟩
    · simp at ho
      subst ho
      obtain ⟨dsy6, y6, hLy6⟩ := hdep { on := 6, ground := .data } (by simp) rfl
      obtain ⟨m0, m1, m2, m3, m4, m4l, m4c, m5, m5l, m5c, rfl⟩ := hLy6.six
      have y6 : ac.tmps[170]?.getD undef = _ := y6
      clear hdep hA
      go_simp
      exact hK _ wb (Below.refl _ _) ⟨_, rfl, hLy6⟩
    · simp at ho
      subst ho
      obtain ⟨dsy6, y6, hLy6⟩ := hdep { on := 6, ground := .data } (by simp) rfl
      obtain ⟨m0, m1, m2, m3, m4, m4l, m4c, m5, m5l, m5c, rfl⟩ := hLy6.six
      have y6 : ac.tmps[170]?.getD undef = _ := y6
      clear hdep hA
      go_simp
      exact hK _ wb (Below.refl _ _) rfl
  case s4 =>
    intro o ac wb K' ho hA hB hU hK
    have sv0 : ac.tmps[0]?.getD undef = .string ⟨#[103, 101, 116]⟩ := hA.sl (t := 0) (by decide)
    have sv1 : ac.tmps[1]?.getD undef = .slice (some ⟨sb, 0, none⟩) 2 2 := hA.sl (t := 1) (by decide)
    have sv4 : ac.tmps[4]?.getD undef = .pointer (some ⟨w.heap.size, 0, none⟩) := hA.sl (t := 4) (by decide)
    have g0 := cells_frame hB g0
    have g1 := cells_frame hB g1
    have g2 := cells_frame hB g2
    have g3 := cells_frame hB g3
    have g4 := cells_frame hB g4
    have g5 := cells_frame hB g5
    have g6 := cells_frame hB g6
    have g7 := cells_frame hB g7
    have g8 := cells_frame hB g8
    have g9 := cells_frame hB g9
    have ga := cells_frame hB ga
    have gb := cells_frame hB gb
    simp at ho
    subst ho
    obtain ⟨dsy7, y7, hLy7⟩ := hU 7 (by omega)
    obtain ⟨m0, m1, m2, m3, m4, m4l, m4c, m5, m5l, m5c, rfl⟩ := hLy7.six
    have y7 : ac.tmps[171]?.getD undef = _ := y7
    clear hU hA
    obtain ⟨c0', c1', c2', c3', c4', c5'⟩ := (B0.out.later hB (by omega)).six
    obtain ⟨f0, f1, f2, f3, f4, f5⟩ := (TZ.out.later hB (by omega)).six
    go_simp
    exact hK _ ⟨[.int .i64 m0, .bool m1, .int .i64 m2, .string m3, .slice m4 m4l m4c, .slice m5 m5l m5c], wb, rfl, hB, hLy7, rfl⟩
  case s4b =>
    intro o ac wb K' ho hA hVV hF hK
    have sv0 : ac.tmps[0]?.getD undef = .string ⟨#[103, 101, 116]⟩ := hA.sl (t := 0) (by decide)
    have sv1 : ac.tmps[1]?.getD undef = .slice (some ⟨sb, 0, none⟩) 2 2 := hA.sl (t := 1) (by decide)
    have sv4 : ac.tmps[4]?.getD undef = .pointer (some ⟨w.heap.size, 0, none⟩) := hA.sl (t := 4) (by decide)
    simp at ho
    subst ho
    have y8 : ac.tmps[172]?.getD undef = .int .i64 0 := hVV 8 (by omega)
    clear hVV hA
    go_simp
    exact hK _ _ ⟨rfl, hF⟩
  case s5 =>
    intro ac wn hA hVV hF
    have hs : slots 10 (fun i => match i with | 0 => 164 | 1 => 165 | 2 => 166 | 3 => 167 | 4 => 168 | 5 => 169 | 6 => 170 | 7 => 171 | 8 => 172 | 9 => 5 | _ => 0) = [164, 165, 166, 167, 168, 169, 170, 171, 172, 5] := by rfl
    rw [hs] at hA
    have hac := hA.act (fun t ht => by
      have h8 : t = 164 ∨ t = 165 ∨ t = 166 ∨ t = 167 ∨ t = 168 ∨ t = 169 ∨ t = 170 ∨ t = 171 ∨ t = 172 ∨ t = 5 := by simpa using ht
      rcases h8 with rfl | rfl | rfl | rfl | rfl | rfl | rfl | rfl | rfl | rfl <;> exact Nat.lt_of_lt_of_le (by decide : _ < 193) (Nat.le_refl 193))
    rw [List.foldl_cons, List.foldl_cons, List.foldl_cons, List.foldl_cons, List.foldl_cons, List.foldl_cons, List.foldl_cons, List.foldl_cons, List.foldl_cons, List.foldl_cons, List.foldl_nil] at hac
    generalize sl ac 164 = x164 at hac
    generalize sl ac 165 = x165 at hac
    generalize sl ac 166 = x166 at hac
    generalize sl ac 167 = x167 at hac
    generalize sl ac 168 = x168 at hac
    generalize sl ac 169 = x169 at hac
    generalize sl ac 170 = x170 at hac
    generalize sl ac 171 = x171 at hac
    generalize sl ac 172 = x172 at hac
    generalize sl ac 5 = x5 at hac hF
    clear hA hs hVV
    subst hac
    simp only [Act.put, List.setIfInBounds_toArray, List.set_cons_succ, List.set_cons_zero]
    obtain ⟨rfl, vs, w5, hlen, hb5, hl5, rfl⟩ := hF
    have HV5 := Lib.hid hb5
    have HL5 := Lib.hid hl5
    have HLEN := Lib.hid hlen
    clear hb5 hl5 hlen
    generalize hW : setRow w5 w.heap.size 0 vs = W5
    have HW := Lib.hid hW.symm
    clear hW
    go_wp2_with fail
    refine ret_cells_tmp w5 w.heap.size vs HW.out Tryz.results16 rfl rfl DD.out HU.out (by rw [HLEN.out]; exact Tryz.sizeV) (fun i hi => (B0.out.later HV5.out (by omega)).cells rfl i (by rw [← HLEN.out]; exact hi)) ?_
    have hbf := setRow_below w.heap.size (Nat.le_refl _) vs w5 0 (bstep HV.out HV5.out HV.out.size)
    have hl := (HL5.out.keep (w' := setRow w5 w.heap.size 0 vs) (fun b hb => setRow_heap _ _ _ _ _ (by omega))).weaken (R' := fun b => w.heap.size ≤ b) fun b hb => by omega
    generalize setRow w5 w.heap.size 0 vs = v2 at hbf hl ⊢
    exact ⟨_, rfl, hl, hbf⟩

set_option maxRecDepth 100000 in
set_option maxHeartbeats 2000000 in
theorem fanswer_getM {w0 : World} {R : Nat → Prop} {a0 : Int} {a1 : Bool} {a2 : Int} {a3 : ByteArray} {a4 : Option Addr} {a4l a4c : Nat} {a5 : Option Addr} {a5l a5c : Nat} {m : List (ByteArray × T)} (h : Lies w0 R (.mk 5 false 0 ⟨#[]⟩ [] m) #[.int .i64 a0, .bool a1, .int .i64 a2, .string a3, .slice a4 a4l a4c, .slice a5 a5l a5c]) (key : ByteArray) (sb : Nat) (w : World) (hw : Below w0.heap.size w0 w) (hx : TwoV w sb (.int .i64 a0) (.bool a1) (.int .i64 a2) (.string a3) (.slice a4 a4l a4c) (.slice a5 a5l a5c) (.int .i64 3) (.bool false) (.int .i64 0) (.string key) (.slice none 0 0) (.slice none 0 0)) :
    Calls Tryz.prog 16 #[.string ⟨#[103, 101, 116]⟩, .slice (some ⟨sb, 0, none⟩) 2 2] w (ValE w 0 (((T.mk 5 false 0 ⟨#[]⟩ [] m).get key).getD T.nil)) := by
  have FN := Lib.hid (fun w' hw' => funder_map h key w' hw')
  generalize (((T.mk 5 false 0 ⟨#[]⟩ [] m).get key).getD T.nil) = rr at FN ⊢
  clear h
  obtain ⟨dd, hu, hdd⟩ := Tryz.structV
  have DD := Lib.hid hdd
  have HU := Lib.hid hu
  clear hdd hu
  have hbv : Below w.heap.size w (w.alloc (.cells zeroV 28)) := ((Below.refl _ _).alloc (Nat.le_refl _) _)
  have b0 : Box6 (w.alloc (.cells zeroV 28)) (w.heap.size) zeroV := by
    have := Box6.new w zeroV 28
    exact this
  have tz := Thaw.new w zeroV 28
  have es : (w.alloc (.cells zeroV 28)).heap.size = w.heap.size + 1 := by simp
  have B0 := Lib.hid b0
  have TZ := Lib.hid tz
  have HV := Lib.hid hbv
  have ES := Lib.hid es
  clear hbv tz es b0
  have HX := Lib.hid (hx.later HV.out)
  clear hx
  go_enter Tryz.func16, Tryz.ntmps16
  go_upto_region 1 with fail
  generalize (w.alloc (.cells zeroV 28)) = v at *
  have hvs := Nat.le_of_eq ES.out.symm
  have HWV := Lib.hid (bstep hw HV.out hw.size)
  go_upto_region 45 with fail
  obtain ⟨g0, g1, g2, g3, g4, g5, g6, g7, g8, g9, ga, gb⟩ := HX.out
  refine wp_region_specs4 v 9 (fun i => match i with | 0 => 164 | 1 => 165 | 2 => 166 | 3 => 167 | 4 => 168 | 5 => 169 | 6 => 170 | 7 => 171 | 8 => 172 | 9 => 5 | _ => 0) (fun i x wx => match i with | 0 => x = .slice (some ⟨sb, 0, none⟩) 2 2 | 1 => x = .pointer (some ⟨sb, 0, none⟩) | 2 => x = .agg #[.int .i64 a0, .bool a1, .int .i64 a2, .string a3, .slice a4 a4l a4c, .slice a5 a5l a5c] | 3 => x = .slice (some ⟨sb, 0, none⟩) 2 2 | 4 => x = .pointer (some ⟨sb, 6, none⟩) | 5 => x = .agg #[.int .i64 3, .bool false, .int .i64 0, .string key, .slice none 0 0, .slice none 0 0] | 6 => ∃ ds : Array Value, x = .tuple #[.agg ds, .int .i64 0] ∧ Lies wx (fun b => v.heap.size ≤ b) rr ds | 7 => ∃ ds : Array Value, x = .agg ds ∧ Lies wx (fun b => v.heap.size ≤ b) rr ds | 8 => x = .int .i64 0 | _ => True) (fun i x => match i with | 0 => x = .slice (some ⟨sb, 0, none⟩) 2 2 | 1 => x = .pointer (some ⟨sb, 0, none⟩) | 2 => x = .agg #[.int .i64 a0, .bool a1, .int .i64 a2, .string a3, .slice a4 a4l a4c, .slice a5 a5l a5c] | 3 => x = .slice (some ⟨sb, 0, none⟩) 2 2 | 4 => x = .pointer (some ⟨sb, 6, none⟩) | 5 => x = .agg #[.int .i64 3, .bool false, .int .i64 0, .string key, .slice none 0 0, .slice none 0 0] | 6 => ∃ ds : Array Value, x = .tuple #[.agg ds, .int .i64 0] | 7 => True | 8 => x = .int .i64 0 | _ => True) (fun wx => ∃ (vs : List Value) (wb : World), vs.length = 6 ∧ Below v.heap.size v wb ∧ Lies wb (fun b => v.heap.size ≤ b) rr vs.toArray ∧ wx = setRow wb w.heap.size 0 vs) (fun x wx => x = .int .i64 0 ∧ ∃ (vs : List Value) (wb : World), vs.length = 6 ∧ Below v.heap.size v wb ∧ Lies wb (fun b => v.heap.size ≤ b) rr vs.toArray ∧ wx = setRow wb w.heap.size 0 vs) (by kernel_rfl) (by kernel_rfl) ?s1 (Below.refl _ _) ?s2 ?sv ?s3 ?s4 ?s4b ?s5
  case s1 => intro i hi; rcases (by omega : i = 0 ∨ i = 1 ∨ i = 2 ∨ i = 3 ∨ i = 4 ∨ i = 5 ∨ i = 6 ∨ i = 7 ∨ i = 8 ∨ i = 9) with rfl | rfl | rfl | rfl | rfl | rfl | rfl | rfl | rfl | rfl <;> exact Nat.lt_of_lt_of_le (by decide : _ < 193) (Nat.le_refl 193)
  case s2 =>
    intro i x w1 w2 hb hU
    match i, hU with
    | 6, ⟨ds, e, hL⟩ => exact ⟨ds, e, hL.later hb⟩
    | 7, ⟨ds, e, hL⟩ => exact ⟨ds, e, hL.later hb⟩
    | 0, h | 1, h | 2, h | 3, h | 4, h | 5, h | 8, h => exact h
    | (n + 9), _ => trivial
  case sv =>
    intro i x w1 hi hU
    match i, hU with
    | 6, ⟨ds, e, hL⟩ => exact ⟨ds, e⟩
    | 7, _ => trivial
    | 0, h | 1, h | 2, h | 3, h | 4, h | 5, h | 8, h => exact h
    | (n + 9), _ => trivial
  case s3 =>
    intro i o ac wb K' ho hi hA hB hdep hK
    have sv0 : ac.tmps[0]?.getD undef = .string ⟨#[103, 101, 116]⟩ := hA.sl (t := 0) (by decide)
    have sv1 : ac.tmps[1]?.getD undef = .slice (some ⟨sb, 0, none⟩) 2 2 := hA.sl (t := 1) (by decide)
    have sv4 : ac.tmps[4]?.getD undef = .pointer (some ⟨w.heap.size, 0, none⟩) := hA.sl (t := 4) (by decide)
    have g0 := cells_frame hB g0
    have g1 := cells_frame hB g1
    have g2 := cells_frame hB g2
    have g3 := cells_frame hB g3
    have g4 := cells_frame hB g4
    have g5 := cells_frame hB g5
    have g6 := cells_frame hB g6
    have g7 := cells_frame hB g7
    have g8 := cells_frame hB g8
    have g9 := cells_frame hB g9
    have ga := cells_frame hB ga
    have gb := cells_frame hB gb
    rcases (by omega : i = 0 ∨ i = 1 ∨ i = 2 ∨ i = 3 ∨ i = 4 ∨ i = 5 ∨ i = 6 ∨ i = 7 ∨ i = 8) with rfl | rfl | rfl | rfl | rfl | rfl | rfl | rfl | rfl
    · simp at ho
      subst ho
      clear hdep hA
      go_simp
      exact hK _ wb (Below.refl _ _) rfl
    · simp at ho
      subst ho
      have y0 : ac.tmps[164]?.getD undef = .slice (some ⟨sb, 0, none⟩) 2 2 := hdep { on := 0, ground := .data } (by simp) rfl
      clear hdep hA
      go_simp
      exact hK _ wb (Below.refl _ _) rfl
    · simp at ho
      subst ho
      have y1 : ac.tmps[165]?.getD undef = .pointer (some ⟨sb, 0, none⟩) := hdep { on := 1, ground := .data } (by simp) rfl
      clear hdep hA
      go_simp
      exact hK _ wb (Below.refl _ _) rfl
    · simp at ho
      subst ho
      clear hdep hA
      go_simp
      exact hK _ wb (Below.refl _ _) rfl
    · simp at ho
      subst ho
      have y3 : ac.tmps[167]?.getD undef = .slice (some ⟨sb, 0, none⟩) 2 2 := hdep { on := 3, ground := .data } (by simp) rfl
      clear hdep hA
      go_simp
      exact hK _ wb (Below.refl _ _) rfl
    · simp at ho
      subst ho
      have y4 : ac.tmps[168]?.getD undef = .pointer (some ⟨sb, 6, none⟩) := hdep { on := 4, ground := .data } (by simp) rfl
      clear hdep hA
      go_simp
      exact hK _ wb (Below.refl _ _) rfl
    · simp at ho
      subst ho
      have y2 : ac.tmps[166]?.getD undef = .agg #[.int .i64 a0, .bool a1, .int .i64 a2, .string a3, .slice a4 a4l a4c, .slice a5 a5l a5c] := hdep { on := 2, ground := .data } (by simp) rfl
      have y5 : ac.tmps[169]?.getD undef = .agg #[.int .i64 3, .bool false, .int .i64 0, .string key, .slice none 0 0, .slice none 0 0] := hdep { on := 5, ground := .data } (by simp) rfl
      clear hdep hA
      go_simp
      refine (FN.out wb (bstep HWV.out hB HWV.out.size)).mono ?_
      rintro e w5 ⟨vs, rfl, hL, hb5⟩
      have hsB := hB.size
      exact hK _ w5 hb5 ⟨vs, rfl, hL.weaken fun b hb => by omega⟩
    · simp at ho
      subst ho
      obtain ⟨dsy6, y6, hLy6⟩ := hdep { on := 6, ground := .data } (by simp) rfl
      obtain ⟨m0, m1, m2, m3, m4, m4l, m4c, m5, m5l, m5c, rfl⟩ := hLy6.six
      have y6 : ac.tmps[170]?.getD undef = _ := y6
      clear hdep hA
      go_simp
      exact hK _ wb (Below.refl _ _) ⟨_, rfl, hLy6⟩
    · simp at ho
      subst ho
      obtain ⟨dsy6, y6, hLy6⟩ := hdep { on := 6, ground := .data } (by simp) rfl
      obtain ⟨m0, m1, m2, m3, m4, m4l, m4c, m5, m5l, m5c, rfl⟩ := hLy6.six
      have y6 : ac.tmps[170]?.getD undef = _ := y6
      clear hdep hA
      go_simp
      exact hK _ wb (Below.refl _ _) rfl
  case s4 =>
    intro o ac wb K' ho hA hB hU hK
    have sv0 : ac.tmps[0]?.getD undef = .string ⟨#[103, 101, 116]⟩ := hA.sl (t := 0) (by decide)
    have sv1 : ac.tmps[1]?.getD undef = .slice (some ⟨sb, 0, none⟩) 2 2 := hA.sl (t := 1) (by decide)
    have sv4 : ac.tmps[4]?.getD undef = .pointer (some ⟨w.heap.size, 0, none⟩) := hA.sl (t := 4) (by decide)
    have g0 := cells_frame hB g0
    have g1 := cells_frame hB g1
    have g2 := cells_frame hB g2
    have g3 := cells_frame hB g3
    have g4 := cells_frame hB g4
    have g5 := cells_frame hB g5
    have g6 := cells_frame hB g6
    have g7 := cells_frame hB g7
    have g8 := cells_frame hB g8
    have g9 := cells_frame hB g9
    have ga := cells_frame hB ga
    have gb := cells_frame hB gb
    simp at ho
    subst ho
    obtain ⟨dsy7, y7, hLy7⟩ := hU 7 (by omega)
    obtain ⟨m0, m1, m2, m3, m4, m4l, m4c, m5, m5l, m5c, rfl⟩ := hLy7.six
    have y7 : ac.tmps[171]?.getD undef = _ := y7
    clear hU hA
    obtain ⟨c0', c1', c2', c3', c4', c5'⟩ := (B0.out.later hB (by omega)).six
    obtain ⟨f0, f1, f2, f3, f4, f5⟩ := (TZ.out.later hB (by omega)).six
    go_simp
    exact hK _ ⟨[.int .i64 m0, .bool m1, .int .i64 m2, .string m3, .slice m4 m4l m4c, .slice m5 m5l m5c], wb, rfl, hB, hLy7, rfl⟩
  case s4b =>
    intro o ac wb K' ho hA hVV hF hK
    have sv0 : ac.tmps[0]?.getD undef = .string ⟨#[103, 101, 116]⟩ := hA.sl (t := 0) (by decide)
    have sv1 : ac.tmps[1]?.getD undef = .slice (some ⟨sb, 0, none⟩) 2 2 := hA.sl (t := 1) (by decide)
    have sv4 : ac.tmps[4]?.getD undef = .pointer (some ⟨w.heap.size, 0, none⟩) := hA.sl (t := 4) (by decide)
    simp at ho
    subst ho
    have y8 : ac.tmps[172]?.getD undef = .int .i64 0 := hVV 8 (by omega)
    clear hVV hA
    go_simp
    exact hK _ _ ⟨rfl, hF⟩
  case s5 =>
    intro ac wn hA hVV hF
    have hs : slots 10 (fun i => match i with | 0 => 164 | 1 => 165 | 2 => 166 | 3 => 167 | 4 => 168 | 5 => 169 | 6 => 170 | 7 => 171 | 8 => 172 | 9 => 5 | _ => 0) = [164, 165, 166, 167, 168, 169, 170, 171, 172, 5] := by rfl
    rw [hs] at hA
    have hac := hA.act (fun t ht => by
      have h8 : t = 164 ∨ t = 165 ∨ t = 166 ∨ t = 167 ∨ t = 168 ∨ t = 169 ∨ t = 170 ∨ t = 171 ∨ t = 172 ∨ t = 5 := by simpa using ht
      rcases h8 with rfl | rfl | rfl | rfl | rfl | rfl | rfl | rfl | rfl | rfl <;> exact Nat.lt_of_lt_of_le (by decide : _ < 193) (Nat.le_refl 193))
    rw [List.foldl_cons, List.foldl_cons, List.foldl_cons, List.foldl_cons, List.foldl_cons, List.foldl_cons, List.foldl_cons, List.foldl_cons, List.foldl_cons, List.foldl_cons, List.foldl_nil] at hac
    generalize sl ac 164 = x164 at hac
    generalize sl ac 165 = x165 at hac
    generalize sl ac 166 = x166 at hac
    generalize sl ac 167 = x167 at hac
    generalize sl ac 168 = x168 at hac
    generalize sl ac 169 = x169 at hac
    generalize sl ac 170 = x170 at hac
    generalize sl ac 171 = x171 at hac
    generalize sl ac 172 = x172 at hac
    generalize sl ac 5 = x5 at hac hF
    clear hA hs hVV
    subst hac
    simp only [Act.put, List.setIfInBounds_toArray, List.set_cons_succ, List.set_cons_zero]
    obtain ⟨rfl, vs, w5, hlen, hb5, hl5, rfl⟩ := hF
    have HV5 := Lib.hid hb5
    have HL5 := Lib.hid hl5
    have HLEN := Lib.hid hlen
    clear hb5 hl5 hlen
    generalize hW : setRow w5 w.heap.size 0 vs = W5
    have HW := Lib.hid hW.symm
    clear hW
    go_wp2_with fail
    refine ret_cells_tmp w5 w.heap.size vs HW.out Tryz.results16 rfl rfl DD.out HU.out (by rw [HLEN.out]; exact Tryz.sizeV) (fun i hi => (B0.out.later HV5.out (by omega)).cells rfl i (by rw [← HLEN.out]; exact hi)) ?_
    have hbf := setRow_below w.heap.size (Nat.le_refl _) vs w5 0 (bstep HV.out HV5.out HV.out.size)
    have hl := (HL5.out.keep (w' := setRow w5 w.heap.size 0 vs) (fun b hb => setRow_heap _ _ _ _ _ (by omega))).weaken (R' := fun b => w.heap.size ≤ b) fun b hb => by omega
    generalize setRow w5 w.heap.size 0 vs = v2 at hbf hl ⊢
    exact ⟨_, rfl, hl, hbf⟩

set_option maxRecDepth 100000 in
set_option maxHeartbeats 2000000 in
theorem fanswer_has {w0 : World} {R : Nat → Prop} {a0 : Int} {a1 : Bool} {a2 : Int} {a3 : ByteArray} {a4 : Option Addr} {a4l a4c : Nat} {a5 : Option Addr} {a5l a5c : Nat} {b0 : Int} {b1 : Bool} {b2 : Int} {b3 : ByteArray} {b4 : Option Addr} {b4l b4c : Nat} {b5 : Option Addr} {b5l b5c : Nat} {R2 : Nat → Prop} {ts : List T} {u : T} (h : Lies w0 R (T.listOf ts) #[.int .i64 b0, .bool b1, .int .i64 b2, .string b3, .slice b4 b4l b4c, .slice b5 b5l b5c]) (h2 : Lies w0 R2 u #[.int .i64 a0, .bool a1, .int .i64 a2, .string a3, .slice a4 a4l a4c, .slice a5 a5l a5c]) (sb : Nat) (w : World) (hw : Below w0.heap.size w0 w) (hx : TwoV w sb (.int .i64 a0) (.bool a1) (.int .i64 a2) (.string a3) (.slice a4 a4l a4c) (.slice a5 a5l a5c) (.int .i64 b0) (.bool b1) (.int .i64 b2) (.string b3) (.slice b4 b4l b4c) (.slice b5 b5l b5c)) :
    Calls Tryz.prog 16 #[.string ⟨#[104, 97, 115]⟩, .slice (some ⟨sb, 0, none⟩) 2 2] w fun e w' => e = .returned (.tuple #[.agg #[.int .i64 1, .bool (ts.any (isT u)), .int .i64 0, .string ⟨#[]⟩, .slice none 0 0, .slice none 0 0], .int .i64 0]) ∧ Below w.heap.size w w' := by
  have FN := Lib.hid (fun w' hw' => fhas_list h h2 w' hw')
  generalize ts.any (isT u) = r at FN ⊢
  clear h h2
  obtain ⟨dd, hu, hdd⟩ := Tryz.structV
  have DD := Lib.hid hdd
  have HU := Lib.hid hu
  clear hdd hu
  have hbv : Below w.heap.size w (w.alloc (.cells zeroV 28)) := ((Below.refl _ _).alloc (Nat.le_refl _) _)
  have b0 : Box6 (w.alloc (.cells zeroV 28)) (w.heap.size) zeroV := by
    have := Box6.new w zeroV 28
    exact this
  have tz := Thaw.new w zeroV 28
  have es : (w.alloc (.cells zeroV 28)).heap.size = w.heap.size + 1 := by simp
  have B0 := Lib.hid b0
  have TZ := Lib.hid tz
  have HV := Lib.hid hbv
  have ES := Lib.hid es
  clear hbv tz es b0
  have HX := Lib.hid (hx.later HV.out)
  clear hx
  go_enter Tryz.func16, Tryz.ntmps16
  go_upto_region 1 with fail
  generalize (w.alloc (.cells zeroV 28)) = v at *
  have hvs := Nat.le_of_eq ES.out.symm
  have HWV := Lib.hid (bstep hw HV.out hw.size)
  go_upto_region 49 with fail
  obtain ⟨g0, g1, g2, g3, g4, g5, g6, g7, g8, g9, ga, gb⟩ := HX.out
  refine wp_region_specs4 v 9 (fun i => match i with | 0 => 183 | 1 => 184 | 2 => 185 | 3 => 186 | 4 => 187 | 5 => 188 | 6 => 189 | 7 => 190 | 8 => 191 | 9 => 5 | _ => 0) (fun i x wx => match i with | 0 => x = .slice (some ⟨sb, 0, none⟩) 2 2 | 1 => x = .pointer (some ⟨sb, 0, none⟩) | 2 => x = .agg #[.int .i64 a0, .bool a1, .int .i64 a2, .string a3, .slice a4 a4l a4c, .slice a5 a5l a5c] | 3 => x = .slice (some ⟨sb, 0, none⟩) 2 2 | 4 => x = .pointer (some ⟨sb, 6, none⟩) | 5 => x = .agg #[.int .i64 b0, .bool b1, .int .i64 b2, .string b3, .slice b4 b4l b4c, .slice b5 b5l b5c] | 6 => x = .tuple #[.agg #[.int .i64 1, .bool r, .int .i64 0, .string ⟨#[]⟩, .slice none 0 0, .slice none 0 0], .int .i64 0] | 7 => x = .agg #[.int .i64 1, .bool r, .int .i64 0, .string ⟨#[]⟩, .slice none 0 0, .slice none 0 0] | 8 => x = .int .i64 0 | _ => True) (fun i x => match i with | 0 => x = .slice (some ⟨sb, 0, none⟩) 2 2 | 1 => x = .pointer (some ⟨sb, 0, none⟩) | 2 => x = .agg #[.int .i64 a0, .bool a1, .int .i64 a2, .string a3, .slice a4 a4l a4c, .slice a5 a5l a5c] | 3 => x = .slice (some ⟨sb, 0, none⟩) 2 2 | 4 => x = .pointer (some ⟨sb, 6, none⟩) | 5 => x = .agg #[.int .i64 b0, .bool b1, .int .i64 b2, .string b3, .slice b4 b4l b4c, .slice b5 b5l b5c] | 6 => x = .tuple #[.agg #[.int .i64 1, .bool r, .int .i64 0, .string ⟨#[]⟩, .slice none 0 0, .slice none 0 0], .int .i64 0] | 7 => x = .agg #[.int .i64 1, .bool r, .int .i64 0, .string ⟨#[]⟩, .slice none 0 0, .slice none 0 0] | 8 => x = .int .i64 0 | _ => True) (fun wx => ∃ wb, Below v.heap.size v wb ∧ wx = setRow wb w.heap.size 0 [.int .i64 1, .bool r, .int .i64 0, .string ⟨#[]⟩, .slice none 0 0, .slice none 0 0]) (fun x wx => x = .int .i64 0 ∧ ∃ wb, Below v.heap.size v wb ∧ wx = setRow wb w.heap.size 0 [.int .i64 1, .bool r, .int .i64 0, .string ⟨#[]⟩, .slice none 0 0, .slice none 0 0]) (by kernel_rfl) (by kernel_rfl) ?s1 (Below.refl _ _) ?s2 ?sv ?s3 ?s4 ?s4b ?s5
  case s1 => intro i hi; rcases (by omega : i = 0 ∨ i = 1 ∨ i = 2 ∨ i = 3 ∨ i = 4 ∨ i = 5 ∨ i = 6 ∨ i = 7 ∨ i = 8 ∨ i = 9) with rfl | rfl | rfl | rfl | rfl | rfl | rfl | rfl | rfl | rfl <;> exact Nat.lt_of_lt_of_le (by decide : _ < 193) (Nat.le_refl 193)
  case s2 =>
    intro i x w1 w2 hb hU
    match i, hU with
    | 6, h => exact h
    | 0, h | 1, h | 2, h | 3, h | 4, h | 5, h | 7, h | 8, h => exact h
    | (n + 9), _ => trivial
  case sv =>
    intro i x w1 hi hU
    match i, hU with
    | 6, h => exact h
    | 0, h | 1, h | 2, h | 3, h | 4, h | 5, h | 7, h | 8, h => exact h
    | (n + 9), _ => trivial
  case s3 =>
    intro i o ac wb K' ho hi hA hB hdep hK
    have sv0 : ac.tmps[0]?.getD undef = .string ⟨#[104, 97, 115]⟩ := hA.sl (t := 0) (by decide)
    have sv1 : ac.tmps[1]?.getD undef = .slice (some ⟨sb, 0, none⟩) 2 2 := hA.sl (t := 1) (by decide)
    have sv4 : ac.tmps[4]?.getD undef = .pointer (some ⟨w.heap.size, 0, none⟩) := hA.sl (t := 4) (by decide)
    have g0 := cells_frame hB g0
    have g1 := cells_frame hB g1
    have g2 := cells_frame hB g2
    have g3 := cells_frame hB g3
    have g4 := cells_frame hB g4
    have g5 := cells_frame hB g5
    have g6 := cells_frame hB g6
    have g7 := cells_frame hB g7
    have g8 := cells_frame hB g8
    have g9 := cells_frame hB g9
    have ga := cells_frame hB ga
    have gb := cells_frame hB gb
    rcases (by omega : i = 0 ∨ i = 1 ∨ i = 2 ∨ i = 3 ∨ i = 4 ∨ i = 5 ∨ i = 6 ∨ i = 7 ∨ i = 8) with rfl | rfl | rfl | rfl | rfl | rfl | rfl | rfl | rfl
    · simp at ho
      subst ho
      clear hdep hA
      go_simp
      exact hK _ wb (Below.refl _ _) rfl
    · simp at ho
      subst ho
      have y0 : ac.tmps[183]?.getD undef = .slice (some ⟨sb, 0, none⟩) 2 2 := hdep { on := 0, ground := .data } (by simp) rfl
      clear hdep hA
      go_simp
      exact hK _ wb (Below.refl _ _) rfl
    · simp at ho
      subst ho
      have y1 : ac.tmps[184]?.getD undef = .pointer (some ⟨sb, 0, none⟩) := hdep { on := 1, ground := .data } (by simp) rfl
      clear hdep hA
      go_simp
      exact hK _ wb (Below.refl _ _) rfl
    · simp at ho
      subst ho
      clear hdep hA
      go_simp
      exact hK _ wb (Below.refl _ _) rfl
    · simp at ho
      subst ho
      have y3 : ac.tmps[186]?.getD undef = .slice (some ⟨sb, 0, none⟩) 2 2 := hdep { on := 3, ground := .data } (by simp) rfl
      clear hdep hA
      go_simp
      exact hK _ wb (Below.refl _ _) rfl
    · simp at ho
      subst ho
      have y4 : ac.tmps[187]?.getD undef = .pointer (some ⟨sb, 6, none⟩) := hdep { on := 4, ground := .data } (by simp) rfl
      clear hdep hA
      go_simp
      exact hK _ wb (Below.refl _ _) rfl
    · simp at ho
      subst ho
      have y2 : ac.tmps[185]?.getD undef = .agg #[.int .i64 a0, .bool a1, .int .i64 a2, .string a3, .slice a4 a4l a4c, .slice a5 a5l a5c] := hdep { on := 2, ground := .data } (by simp) rfl
      have y5 : ac.tmps[188]?.getD undef = .agg #[.int .i64 b0, .bool b1, .int .i64 b2, .string b3, .slice b4 b4l b4c, .slice b5 b5l b5c] := hdep { on := 5, ground := .data } (by simp) rfl
      clear hdep hA
      go_simp
      refine (FN.out wb (bstep HWV.out hB HWV.out.size)).mono ?_
      rintro e w5 ⟨rfl, hb5⟩
      exact hK _ w5 hb5 rfl
    · simp at ho
      subst ho
      have y6 : ac.tmps[189]?.getD undef = .tuple #[.agg #[.int .i64 1, .bool r, .int .i64 0, .string ⟨#[]⟩, .slice none 0 0, .slice none 0 0], .int .i64 0] := hdep { on := 6, ground := .data } (by simp) rfl
      clear hdep hA
      go_simp
      exact hK _ wb (Below.refl _ _) rfl
    · simp at ho
      subst ho
      have y6 : ac.tmps[189]?.getD undef = .tuple #[.agg #[.int .i64 1, .bool r, .int .i64 0, .string ⟨#[]⟩, .slice none 0 0, .slice none 0 0], .int .i64 0] := hdep { on := 6, ground := .data } (by simp) rfl
      clear hdep hA
      go_simp
      exact hK _ wb (Below.refl _ _) rfl
  case s4 =>
    intro o ac wb K' ho hA hB hU hK
    have sv0 : ac.tmps[0]?.getD undef = .string ⟨#[104, 97, 115]⟩ := hA.sl (t := 0) (by decide)
    have sv1 : ac.tmps[1]?.getD undef = .slice (some ⟨sb, 0, none⟩) 2 2 := hA.sl (t := 1) (by decide)
    have sv4 : ac.tmps[4]?.getD undef = .pointer (some ⟨w.heap.size, 0, none⟩) := hA.sl (t := 4) (by decide)
    have g0 := cells_frame hB g0
    have g1 := cells_frame hB g1
    have g2 := cells_frame hB g2
    have g3 := cells_frame hB g3
    have g4 := cells_frame hB g4
    have g5 := cells_frame hB g5
    have g6 := cells_frame hB g6
    have g7 := cells_frame hB g7
    have g8 := cells_frame hB g8
    have g9 := cells_frame hB g9
    have ga := cells_frame hB ga
    have gb := cells_frame hB gb
    simp at ho
    subst ho
    have y7 : ac.tmps[190]?.getD undef = .agg #[.int .i64 1, .bool r, .int .i64 0, .string ⟨#[]⟩, .slice none 0 0, .slice none 0 0] := hU 7 (by omega)
    clear hU hA
    obtain ⟨c0', c1', c2', c3', c4', c5'⟩ := (B0.out.later hB (by omega)).six
    obtain ⟨f0, f1, f2, f3, f4, f5⟩ := (TZ.out.later hB (by omega)).six
    go_simp
    exact hK _ ⟨wb, hB, rfl⟩
  case s4b =>
    intro o ac wb K' ho hA hVV hF hK
    have sv0 : ac.tmps[0]?.getD undef = .string ⟨#[104, 97, 115]⟩ := hA.sl (t := 0) (by decide)
    have sv1 : ac.tmps[1]?.getD undef = .slice (some ⟨sb, 0, none⟩) 2 2 := hA.sl (t := 1) (by decide)
    have sv4 : ac.tmps[4]?.getD undef = .pointer (some ⟨w.heap.size, 0, none⟩) := hA.sl (t := 4) (by decide)
    simp at ho
    subst ho
    have y8 : ac.tmps[191]?.getD undef = .int .i64 0 := hVV 8 (by omega)
    clear hVV hA
    go_simp
    exact hK _ _ ⟨rfl, hF⟩
  case s5 =>
    intro ac wn hA hVV hF
    have hs : slots 10 (fun i => match i with | 0 => 183 | 1 => 184 | 2 => 185 | 3 => 186 | 4 => 187 | 5 => 188 | 6 => 189 | 7 => 190 | 8 => 191 | 9 => 5 | _ => 0) = [183, 184, 185, 186, 187, 188, 189, 190, 191, 5] := by rfl
    rw [hs] at hA
    have hac := hA.act (fun t ht => by
      have h8 : t = 183 ∨ t = 184 ∨ t = 185 ∨ t = 186 ∨ t = 187 ∨ t = 188 ∨ t = 189 ∨ t = 190 ∨ t = 191 ∨ t = 5 := by simpa using ht
      rcases h8 with rfl | rfl | rfl | rfl | rfl | rfl | rfl | rfl | rfl | rfl <;> exact Nat.lt_of_lt_of_le (by decide : _ < 193) (Nat.le_refl 193))
    rw [List.foldl_cons, List.foldl_cons, List.foldl_cons, List.foldl_cons, List.foldl_cons, List.foldl_cons, List.foldl_cons, List.foldl_cons, List.foldl_cons, List.foldl_cons, List.foldl_nil] at hac
    generalize sl ac 183 = x183 at hac
    generalize sl ac 184 = x184 at hac
    generalize sl ac 185 = x185 at hac
    generalize sl ac 186 = x186 at hac
    generalize sl ac 187 = x187 at hac
    generalize sl ac 188 = x188 at hac
    generalize sl ac 189 = x189 at hac
    generalize sl ac 190 = x190 at hac
    generalize sl ac 191 = x191 at hac
    generalize sl ac 5 = x5 at hac hF
    clear hA hs hVV
    subst hac
    simp only [Act.put, List.setIfInBounds_toArray, List.set_cons_succ, List.set_cons_zero]
    obtain ⟨rfl, w5, hb5, rfl⟩ := hF
    have HV5 := Lib.hid hb5
    clear hb5
    generalize hW : setRow w5 w.heap.size 0 [.int .i64 1, .bool r, .int .i64 0, .string ⟨#[]⟩, .slice none 0 0, .slice none 0 0] = W5
    have HW := Lib.hid hW.symm
    clear hW
    go_wp2_with fail
    exact ret_cells_tmp w5 w.heap.size [.int .i64 1, .bool r, .int .i64 0, .string ⟨#[]⟩, .slice none 0 0, .slice none 0 0] HW.out Tryz.results16 rfl rfl DD.out HU.out Tryz.sizeV ((B0.out.later HV5.out (by omega)).cells rfl) ⟨rfl, setRow_below _ (by omega) _ _ _ (bstep HV.out HV5.out HV.out.size)⟩

end Go.Proofs.YthjdeckdklhphaaGreatDoor
