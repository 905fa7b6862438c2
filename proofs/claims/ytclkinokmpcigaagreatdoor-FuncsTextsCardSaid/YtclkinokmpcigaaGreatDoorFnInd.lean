/-
  Package funcs' indented, by no blanks; answer of indent, nindent and print.
-/
import Derived.Test.YtclkinokmpcigaaGreatDoorFnGlue
import Derived.Test.YtclkinokmpcigaaGreatDoorFnCall
import Derived.Test.YtclkinokmpcigaaGreatDoorFnAnsw
import Derived.Test.YtclkinokmpcigaaGreatDoorSpecsE
set_option linter.unusedVariables false
set_option linter.unusedSimpArgs false
namespace Go.Proofs.YtclkinokmpcigaaGreatDoor
open Go.RowKit

theorem sReplaceAll_same (s old new : ByteArray) (h : old = new) (w : World) : Calls Tryz.prog 56 #[.string s, .string old, .string new] w fun e w' => e = .returned (.string s) ∧ w' = w := by
  have HR := Lib.hid (Tryz.strings_Replace_none s old new (-1) w (.inl h))
  clear h
  go_enter Tryz.func56, Tryz.ntmps56
  go_wp2_with (go_at_call 96; refine HR.out.mono ?_; rintro e w1 ⟨rfl, rfl⟩)
  go_ret
  exact ⟨rfl, rfl⟩
/-- What indented makes of a text, by no blanks. -/
def indL (name s : ByteArray) : ByteArray := if name = ⟨#[110, 105, 110, 100, 101, 110, 116]⟩ then ⟨#[10]⟩ ++ s else s
theorem nil_app (s : ByteArray) : (⟨#[]⟩ : ByteArray) ++ s = s := by
  apply ByteArray.ext
  simp

set_option maxRecDepth 100000 in
set_option maxHeartbeats 2000000 in
theorem find_indent (s : ByteArray) (hs : s.size ≤ 65536) (w : World) :
    Calls Tryz.prog 24 #[.string ⟨#[105, 110, 100, 101, 110, 116]⟩, .agg (cI 0), .agg (cS s)] w fun e w' => e = .returned (.tuple #[.agg (cS s), .int .i64 0]) ∧ Below w.heap.size w w' := by
  obtain ⟨dd, hu, hdd⟩ := Tryz.structV
  have DD := Lib.hid hdd
  have HU := Lib.hid hu
  have HS := Lib.hid hs
  clear hdd hu
  have e2 : ((w.alloc (.cells #[.int .i64 2, .bool false, .int .i64 0, .string ⟨#[]⟩, .slice none 0 0, .slice none 0 0] 27)).alloc (.cells #[.int .i64 3, .bool false, .int .i64 0, .string s, .slice none 0 0, .slice none 0 0] 27)).heap.size = w.heap.size + 1 + 1 := by simp
  have hb3 : Below w.heap.size w (((w.alloc (.cells #[.int .i64 2, .bool false, .int .i64 0, .string ⟨#[]⟩, .slice none 0 0, .slice none 0 0] 27)).alloc (.cells #[.int .i64 3, .bool false, .int .i64 0, .string s, .slice none 0 0, .slice none 0 0] 27)).alloc (.cells zeroV 27)) := (((Below.refl _ _).alloc (Nat.le_refl _) _).alloc (by simp) _).alloc (by simp; omega) _
  have b1 : Box6 (((w.alloc (.cells #[.int .i64 2, .bool false, .int .i64 0, .string ⟨#[]⟩, .slice none 0 0, .slice none 0 0] 27)).alloc (.cells #[.int .i64 3, .bool false, .int .i64 0, .string s, .slice none 0 0, .slice none 0 0] 27)).alloc (.cells zeroV 27)) w.heap.size #[.int .i64 2, .bool false, .int .i64 0, .string ⟨#[]⟩, .slice none 0 0, .slice none 0 0] := (Box6.new w _ 27).later (((Below.refl (w.heap.size + 1) _).alloc (by simp) _).alloc (by simp) _) (by omega)
  have b2 : Box6 (((w.alloc (.cells #[.int .i64 2, .bool false, .int .i64 0, .string ⟨#[]⟩, .slice none 0 0, .slice none 0 0] 27)).alloc (.cells #[.int .i64 3, .bool false, .int .i64 0, .string s, .slice none 0 0, .slice none 0 0] 27)).alloc (.cells zeroV 27)) (w.heap.size + 1) #[.int .i64 3, .bool false, .int .i64 0, .string s, .slice none 0 0, .slice none 0 0] := by
    have := Box6.new (w.alloc (.cells #[.int .i64 2, .bool false, .int .i64 0, .string ⟨#[]⟩, .slice none 0 0, .slice none 0 0] 27)) #[.int .i64 3, .bool false, .int .i64 0, .string s, .slice none 0 0, .slice none 0 0] 27
    rw [World.size_alloc] at this
    exact this.later ((Below.refl (w.heap.size + 1 + 1) _).alloc (by simp) _) (by omega)
  have b3 := Box6.new ((w.alloc (.cells #[.int .i64 2, .bool false, .int .i64 0, .string ⟨#[]⟩, .slice none 0 0, .slice none 0 0] 27)).alloc (.cells #[.int .i64 3, .bool false, .int .i64 0, .string s, .slice none 0 0, .slice none 0 0] 27)) zeroV 27
  have t3 := Thaw.new ((w.alloc (.cells #[.int .i64 2, .bool false, .int .i64 0, .string ⟨#[]⟩, .slice none 0 0, .slice none 0 0] 27)).alloc (.cells #[.int .i64 3, .bool false, .int .i64 0, .string s, .slice none 0 0, .slice none 0 0] 27)) zeroV 27
  rw [e2] at b3 t3
  have es3 : (((w.alloc (.cells #[.int .i64 2, .bool false, .int .i64 0, .string ⟨#[]⟩, .slice none 0 0, .slice none 0 0] 27)).alloc (.cells #[.int .i64 3, .bool false, .int .i64 0, .string s, .slice none 0 0, .slice none 0 0] 27)).alloc (.cells zeroV 27)).heap.size = w.heap.size + 3 := by simp
  have HB3 := Lib.hid hb3
  have B1 := Lib.hid b1
  have B2 := Lib.hid b2
  have BZ := Lib.hid b3
  have TZ := Lib.hid t3
  have ES3 := Lib.hid es3
  obtain ⟨lead, hlead⟩ : ∃ lead : ByteArray, lead = ⟨#[]⟩ := ⟨_, rfl⟩
  have RP := Lib.hid (fun w' => Tryz.strings_Repeat_zero ⟨#[32]⟩ w')
  rw [← hlead] at RP
  have HL := Lib.hid hlead
  have hls : lead.size ≤ 0 := by rw [hlead]; exact Nat.le_refl 0
  clear e2 hb3 b1 b2 b3 t3 es3 hlead hs
  go_enter Tryz.func24, Tryz.ntmps24
  go_upto_region 1 with fail
  generalize (((w.alloc (.cells #[.int .i64 2, .bool false, .int .i64 0, .string ⟨#[]⟩, .slice none 0 0, .slice none 0 0] 27)).alloc (.cells #[.int .i64 3, .bool false, .int .i64 0, .string s, .slice none 0 0, .slice none 0 0] 27)).alloc (.cells zeroV 27)) = v at *
  have hvs := Nat.le_of_eq ES3.out.symm
  obtain ⟨p0, p1, p2, p3, p4, p5⟩ := B1.out.six
  obtain ⟨q0, q1, q2, q3, q4, q5⟩ := B2.out.six
  go_upto_region 6 with (go_at_call 20; refine (cText_text _ _ _ _ _ _ _ _ _ v).mono ?_; rintro e w1 ⟨rfl, hb⟩; have HB2 := Lib.hid hb; clear hb)
  obtain ⟨p0, p1, p2, p3, p4, p5⟩ := (B1.out.later HB2.out (by omega)).six
  have hs := HS.out
  go_wp2_with (first
    | (go_at_call 55; refine (RP.out w1).mono ?_; rintro e w4 ⟨rfl, hw4⟩; have HW4 := Lib.hid hw4; clear hw4)
    | (go_at_call 56; refine (sReplaceAll_same s ⟨#[10]⟩ _ (by rw [HL.out]; rfl) w4).mono ?_; rintro e w5 ⟨rfl, hw5⟩; have HW5 := Lib.hid (hw5.trans HW4.out); clear hw5)
    | (go_at_call 8; refine (tStr_any _ w5).mono ?_; rintro e w6 ⟨rfl, hb⟩; rw [HW5.out] at hb; have HV5 := Lib.hid (bstep HB2.out hb HB2.out.size); clear hb; obtain ⟨c0', c1', c2', c3', c4', c5'⟩ := (BZ.out.later HV5.out (by omega)).six; obtain ⟨f0, f1, f2, f3, f4, f5⟩ := (TZ.out.later HV5.out (by omega)).six))
  generalize hq : lead ++ s = q at *
  refine ret_cells_tmp w6 (w.heap.size + 1 + 1) [.int .i64 3, .bool false, .int .i64 0, .string q, .slice none 0 0, .slice none 0 0] rfl Tryz.results24 rfl rfl DD.out HU.out Tryz.sizeV ((BZ.out.later HV5.out (by omega)).cells rfl) ⟨?_, setRow_below _ (by omega) _ _ _ (bstep HB3.out HV5.out HB3.out.size)⟩
  have hr : s = q := by rw [← hq, HL.out, nil_app]
  exact congrArg (fun x => Ending.returned (.tuple #[.agg (cS x), .int .i64 0])) hr.symm

set_option maxRecDepth 100000 in
set_option maxHeartbeats 2000000 in
theorem find_nindent (s : ByteArray) (hs : s.size ≤ 65536) (w : World) :
    Calls Tryz.prog 24 #[.string ⟨#[110, 105, 110, 100, 101, 110, 116]⟩, .agg (cI 0), .agg (cS s)] w fun e w' => e = .returned (.tuple #[.agg (cS (⟨#[10]⟩ ++ s)), .int .i64 0]) ∧ Below w.heap.size w w' := by
  obtain ⟨dd, hu, hdd⟩ := Tryz.structV
  have DD := Lib.hid hdd
  have HU := Lib.hid hu
  have HS := Lib.hid hs
  clear hdd hu
  have e2 : ((w.alloc (.cells #[.int .i64 2, .bool false, .int .i64 0, .string ⟨#[]⟩, .slice none 0 0, .slice none 0 0] 27)).alloc (.cells #[.int .i64 3, .bool false, .int .i64 0, .string s, .slice none 0 0, .slice none 0 0] 27)).heap.size = w.heap.size + 1 + 1 := by simp
  have hb3 : Below w.heap.size w (((w.alloc (.cells #[.int .i64 2, .bool false, .int .i64 0, .string ⟨#[]⟩, .slice none 0 0, .slice none 0 0] 27)).alloc (.cells #[.int .i64 3, .bool false, .int .i64 0, .string s, .slice none 0 0, .slice none 0 0] 27)).alloc (.cells zeroV 27)) := (((Below.refl _ _).alloc (Nat.le_refl _) _).alloc (by simp) _).alloc (by simp; omega) _
  have b1 : Box6 (((w.alloc (.cells #[.int .i64 2, .bool false, .int .i64 0, .string ⟨#[]⟩, .slice none 0 0, .slice none 0 0] 27)).alloc (.cells #[.int .i64 3, .bool false, .int .i64 0, .string s, .slice none 0 0, .slice none 0 0] 27)).alloc (.cells zeroV 27)) w.heap.size #[.int .i64 2, .bool false, .int .i64 0, .string ⟨#[]⟩, .slice none 0 0, .slice none 0 0] := (Box6.new w _ 27).later (((Below.refl (w.heap.size + 1) _).alloc (by simp) _).alloc (by simp) _) (by omega)
  have b2 : Box6 (((w.alloc (.cells #[.int .i64 2, .bool false, .int .i64 0, .string ⟨#[]⟩, .slice none 0 0, .slice none 0 0] 27)).alloc (.cells #[.int .i64 3, .bool false, .int .i64 0, .string s, .slice none 0 0, .slice none 0 0] 27)).alloc (.cells zeroV 27)) (w.heap.size + 1) #[.int .i64 3, .bool false, .int .i64 0, .string s, .slice none 0 0, .slice none 0 0] := by
    have := Box6.new (w.alloc (.cells #[.int .i64 2, .bool false, .int .i64 0, .string ⟨#[]⟩, .slice none 0 0, .slice none 0 0] 27)) #[.int .i64 3, .bool false, .int .i64 0, .string s, .slice none 0 0, .slice none 0 0] 27
    rw [World.size_alloc] at this
    exact this.later ((Below.refl (w.heap.size + 1 + 1) _).alloc (by simp) _) (by omega)
  have b3 := Box6.new ((w.alloc (.cells #[.int .i64 2, .bool false, .int .i64 0, .string ⟨#[]⟩, .slice none 0 0, .slice none 0 0] 27)).alloc (.cells #[.int .i64 3, .bool false, .int .i64 0, .string s, .slice none 0 0, .slice none 0 0] 27)) zeroV 27
  have t3 := Thaw.new ((w.alloc (.cells #[.int .i64 2, .bool false, .int .i64 0, .string ⟨#[]⟩, .slice none 0 0, .slice none 0 0] 27)).alloc (.cells #[.int .i64 3, .bool false, .int .i64 0, .string s, .slice none 0 0, .slice none 0 0] 27)) zeroV 27
  rw [e2] at b3 t3
  have es3 : (((w.alloc (.cells #[.int .i64 2, .bool false, .int .i64 0, .string ⟨#[]⟩, .slice none 0 0, .slice none 0 0] 27)).alloc (.cells #[.int .i64 3, .bool false, .int .i64 0, .string s, .slice none 0 0, .slice none 0 0] 27)).alloc (.cells zeroV 27)).heap.size = w.heap.size + 3 := by simp
  have HB3 := Lib.hid hb3
  have B1 := Lib.hid b1
  have B2 := Lib.hid b2
  have BZ := Lib.hid b3
  have TZ := Lib.hid t3
  have ES3 := Lib.hid es3
  obtain ⟨lead, hlead⟩ : ∃ lead : ByteArray, lead = ⟨#[]⟩ := ⟨_, rfl⟩
  have RP := Lib.hid (fun w' => Tryz.strings_Repeat_zero ⟨#[32]⟩ w')
  rw [← hlead] at RP
  have HL := Lib.hid hlead
  have hls : lead.size ≤ 0 := by rw [hlead]; exact Nat.le_refl 0
  clear e2 hb3 b1 b2 b3 t3 es3 hlead hs
  go_enter Tryz.func24, Tryz.ntmps24
  go_upto_region 1 with fail
  generalize (((w.alloc (.cells #[.int .i64 2, .bool false, .int .i64 0, .string ⟨#[]⟩, .slice none 0 0, .slice none 0 0] 27)).alloc (.cells #[.int .i64 3, .bool false, .int .i64 0, .string s, .slice none 0 0, .slice none 0 0] 27)).alloc (.cells zeroV 27)) = v at *
  have hvs := Nat.le_of_eq ES3.out.symm
  obtain ⟨p0, p1, p2, p3, p4, p5⟩ := B1.out.six
  obtain ⟨q0, q1, q2, q3, q4, q5⟩ := B2.out.six
  go_upto_region 6 with (go_at_call 20; refine (cText_text _ _ _ _ _ _ _ _ _ v).mono ?_; rintro e w1 ⟨rfl, hb⟩; have HB2 := Lib.hid hb; clear hb)
  obtain ⟨p0, p1, p2, p3, p4, p5⟩ := (B1.out.later HB2.out (by omega)).six
  have hs := HS.out
  go_wp2_with (first
    | (go_at_call 55; refine (RP.out w1).mono ?_; rintro e w4 ⟨rfl, hw4⟩; have HW4 := Lib.hid hw4; clear hw4)
    | (go_at_call 56; refine (sReplaceAll_same s ⟨#[10]⟩ _ (by rw [HL.out]; rfl) w4).mono ?_; rintro e w5 ⟨rfl, hw5⟩; have HW5 := Lib.hid (hw5.trans HW4.out); clear hw5)
    | (go_at_call 8; refine (tStr_any _ w5).mono ?_; rintro e w6 ⟨rfl, hb⟩; rw [HW5.out] at hb; have HV5 := Lib.hid (bstep HB2.out hb HB2.out.size); clear hb; obtain ⟨c0', c1', c2', c3', c4', c5'⟩ := (BZ.out.later HV5.out (by omega)).six; obtain ⟨f0, f1, f2, f3, f4, f5⟩ := (TZ.out.later HV5.out (by omega)).six))
  generalize hq : ⟨#[10]⟩ ++ (lead ++ s) = q at *
  refine ret_cells_tmp w6 (w.heap.size + 1 + 1) [.int .i64 3, .bool false, .int .i64 0, .string q, .slice none 0 0, .slice none 0 0] rfl Tryz.results24 rfl rfl DD.out HU.out Tryz.sizeV ((BZ.out.later HV5.out (by omega)).cells rfl) ⟨?_, setRow_below _ (by omega) _ _ _ (bstep HB3.out HV5.out HB3.out.size)⟩
  have hr : (⟨#[10]⟩ ++ s) = q := by rw [← hq, HL.out, nil_app]
  exact congrArg (fun x => Ending.returned (.tuple #[.agg (cS x), .int .i64 0])) hr.symm

end Go.Proofs.YtclkinokmpcigaaGreatDoor
