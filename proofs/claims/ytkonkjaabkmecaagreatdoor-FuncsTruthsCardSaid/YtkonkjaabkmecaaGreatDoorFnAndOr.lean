/-
  Package funcs' answer of and, or.
-/
import Derived.Test.YtkonkjaabkmecaaGreatDoorFnFirst
import Derived.Test.YtkonkjaabkmecaaGreatDoorFnCall
import Derived.Test.YtkonkjaabkmecaaGreatDoorFnAnsw
set_option linter.unusedVariables false
set_option linter.unusedSimpArgs false
namespace Go.Proofs.YtkonkjaabkmecaaGreatDoor
open Go.RowKit


set_option maxRecDepth 100000 in
set_option maxHeartbeats 2000000 in
theorem fanswer_and {R : Nat → Prop} {ts : List T} {a : Option Addr} {cap : Nat} {cl : Nat → Array Value} (w : World) (h : SliceV w R ts a cap cl) (h0 : 0 < ts.length) :
    Calls Tryz.prog 36 #[.string ⟨#[97, 110, 100]⟩, .slice a ts.length cap] w fun e w' => ∃ ds, e = .returned (.tuple #[.agg ds, .int .i64 0]) ∧ Lies w' (fun b => w.heap.size < b) (ts[pickN false ts]'(pickN_lt h0)) ds ∧ Below w.heap.size w w' := by
  have FI := Lib.hid (fun w' (hw' : Below w.heap.size w w') => ffirst_any h false h0 w' hw')
  generalize ts[pickN false ts]'(pickN_lt h0) = r at FI ⊢
  obtain ⟨dd, hu, hdd⟩ := Tryz.structV
  have DD := Lib.hid hdd
  have HU := Lib.hid hu
  clear hdd hu
  have hb1 := (Below.refl w.heap.size w).alloc (Nat.le_refl _) (.cells zeroV 27)
  have B1 := Lib.hid (Box6.new w zeroV 27)
  have T1 := Lib.hid (Thaw.new w zeroV 27)
  have es : (w.alloc (.cells zeroV 27)).heap.size = w.heap.size + 1 := by simp
  have HB1 := Lib.hid hb1
  have ES := Lib.hid es
  have BZ := B1
  have TZ := T1
  clear h hb1 es
  go_enter Tryz.func36, Tryz.ntmps36
  go_upto_region 1 with fail
  generalize (w.alloc (.cells zeroV 27)) = v at *
  have hvr : w.heap.size < v.heap.size := by rw [ES.out]; omega
  go_upto_region 31 with fail
  go_wp2_with fail
  refine (FI.out _ HB1.out).mono ?_
  rintro e w5 ⟨ds, rfl, hL, hb5⟩
  obtain ⟨m0, m1, m2, m3, m4, m4l, m4c, m5, m5l, m5c, rfl⟩ := hL.six
  have HV5 := Lib.hid hb5
  obtain ⟨c0', c1', c2', c3', c4', c5'⟩ := (BZ.out.later HV5.out (by omega)).six
  obtain ⟨f0, f1, f2, f3, f4, f5⟩ := (TZ.out.later HV5.out (by omega)).six
  have HL := Lib.hid (hL.weaken (R' := fun b => w.heap.size < b) fun b hb => by omega)
  clear hL hb5
  go_wp2_with fail
  refine ret_cells_tmp w5 w.heap.size [.int .i64 m0, .bool m1, .int .i64 m2, .string m3, .slice m4 m4l m4c, .slice m5 m5l m5c] rfl Tryz.results36 rfl rfl DD.out HU.out Tryz.sizeV ((BZ.out.later HV5.out (by omega)).cells rfl) ?_
  exact ⟨_, rfl, HL.out.keep (w' := setRow w5 w.heap.size 0 [.int .i64 m0, .bool m1, .int .i64 m2, .string m3, .slice m4 m4l m4c, .slice m5 m5l m5c]) (fun b hb => setRow_heap _ _ _ _ _ (by omega)), setRow_below _ (Nat.le_refl _) _ _ _ (bstep HB1.out HV5.out HB1.out.size)⟩

set_option maxRecDepth 100000 in
set_option maxHeartbeats 2000000 in
theorem fanswer_or {R : Nat → Prop} {ts : List T} {a : Option Addr} {cap : Nat} {cl : Nat → Array Value} (w : World) (h : SliceV w R ts a cap cl) (h0 : 0 < ts.length) :
    Calls Tryz.prog 36 #[.string ⟨#[111, 114]⟩, .slice a ts.length cap] w fun e w' => ∃ ds, e = .returned (.tuple #[.agg ds, .int .i64 0]) ∧ Lies w' (fun b => w.heap.size < b) (ts[pickN true ts]'(pickN_lt h0)) ds ∧ Below w.heap.size w w' := by
  have FI := Lib.hid (fun w' (hw' : Below w.heap.size w w') => ffirst_any h true h0 w' hw')
  generalize ts[pickN true ts]'(pickN_lt h0) = r at FI ⊢
  obtain ⟨dd, hu, hdd⟩ := Tryz.structV
  have DD := Lib.hid hdd
  have HU := Lib.hid hu
  clear hdd hu
  have hb1 := (Below.refl w.heap.size w).alloc (Nat.le_refl _) (.cells zeroV 27)
  have B1 := Lib.hid (Box6.new w zeroV 27)
  have T1 := Lib.hid (Thaw.new w zeroV 27)
  have es : (w.alloc (.cells zeroV 27)).heap.size = w.heap.size + 1 := by simp
  have HB1 := Lib.hid hb1
  have ES := Lib.hid es
  have BZ := B1
  have TZ := T1
  clear h hb1 es
  go_enter Tryz.func36, Tryz.ntmps36
  go_upto_region 1 with fail
  generalize (w.alloc (.cells zeroV 27)) = v at *
  have hvr : w.heap.size < v.heap.size := by rw [ES.out]; omega
  go_upto_region 31 with fail
  go_wp2_with fail
  refine (FI.out _ HB1.out).mono ?_
  rintro e w5 ⟨ds, rfl, hL, hb5⟩
  obtain ⟨m0, m1, m2, m3, m4, m4l, m4c, m5, m5l, m5c, rfl⟩ := hL.six
  have HV5 := Lib.hid hb5
  obtain ⟨c0', c1', c2', c3', c4', c5'⟩ := (BZ.out.later HV5.out (by omega)).six
  obtain ⟨f0, f1, f2, f3, f4, f5⟩ := (TZ.out.later HV5.out (by omega)).six
  have HL := Lib.hid (hL.weaken (R' := fun b => w.heap.size < b) fun b hb => by omega)
  clear hL hb5
  go_wp2_with fail
  refine ret_cells_tmp w5 w.heap.size [.int .i64 m0, .bool m1, .int .i64 m2, .string m3, .slice m4 m4l m4c, .slice m5 m5l m5c] rfl Tryz.results36 rfl rfl DD.out HU.out Tryz.sizeV ((BZ.out.later HV5.out (by omega)).cells rfl) ?_
  exact ⟨_, rfl, HL.out.keep (w' := setRow w5 w.heap.size 0 [.int .i64 m0, .bool m1, .int .i64 m2, .string m3, .slice m4 m4l m4c, .slice m5 m5l m5c]) (fun b hb => setRow_heap _ _ _ _ _ (by omega)), setRow_below _ (Nat.le_refl _) _ _ _ (bstep HB1.out HV5.out HB1.out.size)⟩

end Go.Proofs.YtkonkjaabkmecaaGreatDoor
