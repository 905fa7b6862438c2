/-
  The law's right: a map that may be, and is small.
-/
import Derived.Test.YtlniokpekcoodaaGreatDoorRightM
import Derived.Test.YtlniokpekcoodaaGreatDoorPathGM
import Derived.Test.YtlniokpekcoodaaGreatDoorCloneP
set_option linter.unusedVariables false
set_option linter.unusedSimpArgs false
namespace Go.Proofs.YtlniokpekcoodaaGreatDoor
open Go.RowKit

theorem one_value1 {w1 : World} {R1 : Nat → Prop} {t : T} {k : Int} {b : Bool} {n : Int} {s : ByteArray} {la : Option Addr} {ll lc : Nat} {ma : Option Addr} {ml mc : Nat}
    (h1 : Lies w1 R1 t #[.int .i64 k, .bool b, .int .i64 n, .string s, .slice la ll lc, .slice ma ml mc]) :
    SliceV (w1.alloc (.cells #[.int .i64 k, .bool b, .int .i64 n, .string s, .slice la ll lc, .slice ma ml mc] 25)) (fun _ => True) [t] (some ⟨w1.heap.size, 0, none⟩) 1
      (fun i => #[.int .i64 k, .bool b, .int .i64 n, .string s, .slice la ll lc, .slice ma ml mc]) := by
  have hb := Below.alloc (Below.refl w1.heap.size w1) (Nat.le_refl _) (.cells #[.int .i64 k, .bool b, .int .i64 n, .string s, .slice la ll lc, .slice ma ml mc] 25)
  refine ⟨⟨Nat.le_refl 1, (by decide : 1 * 88 ≤ 140737488355328), by simp, fun _ => ⟨_, _, rfl, trivial⟩, by omega⟩, fun i hi bl ol e => ?_, fun i hi => ?_⟩
  · simp only [Option.some.injEq, Addr.mk.injEq, and_true] at e
    obtain ⟨rfl, rfl⟩ := e
    obtain rfl : i = 0 := by simpa using hi
    intro j hj
    have hj6 : j < 6 := hj
    rw [Nat.zero_add, World.cell?_alloc_new]
    rcases (by omega : j = 0 ∨ j = 1 ∨ j = 2 ∨ j = 3 ∨ j = 4 ∨ j = 5) with rfl | rfl | rfl | rfl | rfl | rfl <;> rfl
  · obtain rfl : i = 0 := by simpa using hi
    exact (h1.later hb).weaken fun _ _ => trivial

theorem row_box6 {w : World} {g : Nat} {c0 c1 c2 c3 c4 c5 : Value} (h : Row w g 0 #[c0, c1, c2, c3, c4, c5]) : Box6 w g #[c0, c1, c2, c3, c4, c5] := fun j hj => by
  have := h j hj
  rw [Nat.zero_add] at this
  rw [this]
  exact (Array.getElem?_eq_getElem _).symm

set_option maxRecDepth 100000 in
set_option maxHeartbeats 2000000 in
theorem l11right_any {w0 : World} {R : Nat → Prop} {t : T} {cs : Array Value} (h : Lies w0 R t cs) (w : World) (hw : Below w0.heap.size w0 w) :
    Calls Tryz.prog 6 #[.agg cs] w fun e w' => e = .returned (.bool (t.good && decide (t.kind = 5))) ∧ Below w.heap.size w w' := by
  obtain ⟨c0, c1, c2, c3, c4, c4l, c4c, c5, c5l, c5c, rfl⟩ := h.six
  have hk : t.kind = c0 := by cases h; rfl
  have hb1 : Below w.heap.size w (w.alloc (.cells #[.int .i64 c0, .bool c1, .int .i64 c2, .string c3, .slice c4 c4l c4c, .slice c5 c5l c5c] 25)) := (Below.refl _ _).alloc (Nat.le_refl _) _
  have BX := Lib.hid (Box6.new w #[.int .i64 c0, .bool c1, .int .i64 c2, .string c3, .slice c4 c4l c4c, .slice c5 c5l c5c] 25)
  have hs1 : w.heap.size < (w.alloc (.cells #[.int .i64 c0, .bool c1, .int .i64 c2, .string c3, .slice c4 c4l c4c, .slice c5 c5l c5c] 25)).heap.size := by simp
  have H1 := Lib.hid (h.later (bstep hw hb1 hw.size))
  have HB1 := Lib.hid hb1
  have HS1 := Lib.hid hs1
  have HK := Lib.hid hk
  clear h hb1 hs1 hk
  obtain ⟨gb, hgb⟩ : ∃ gb, gb = t.good := ⟨_, rfl⟩
  rw [← hgb]
  have HGB := Lib.hid hgb
  clear hgb
  go_enter Tryz.func6, Tryz.ntmps6
  go_upto_region 1 with fail
  generalize w.alloc (.cells #[.int .i64 c0, .bool c1, .int .i64 c2, .string c3, .slice c4 c4l c4c, .slice c5 c5l c5c] 25) = v at *
  have HR : Hid (Calls Tryz.prog 24 #[.slice (some ⟨v.heap.size, 0, none⟩) 1 1] (v.alloc (.cells #[.int .i64 c0, .bool c1, .int .i64 c2, .string c3, .slice c4 c4l c4c, .slice c5 c5l c5c] 25)) fun e w' => e = .returned (.bool gb) ∧ Below (v.alloc (.cells #[.int .i64 c0, .bool c1, .int .i64 c2, .string c3, .slice c4 c4l c4c, .slice c5 c5l c5c] 25)).heap.size (v.alloc (.cells #[.int .i64 c0, .bool c1, .int .i64 c2, .string c3, .slice c4 c4l c4c, .slice c5 c5l c5c] 25)) w') := by
    have := right_any (one_value1 H1.out) _ (Below.refl _ _)
    rw [List.all_cons, List.all_nil, Bool.and_true, ← HGB.out] at this
    exact this
  have HV2 : Hid (Below v.heap.size v (v.alloc (.cells #[.int .i64 c0, .bool c1, .int .i64 c2, .string c3, .slice c4 c4l c4c, .slice c5 c5l c5c] 25))) := (Below.refl _ _).alloc (Nat.le_refl _) _
  obtain ⟨x0, x1, x2, x3, x4, x5⟩ := BX.out.six
  have hkd : (c0 == 5) = decide (t.kind = 5) := by rw [HK.out]; rfl
  have HKD := Lib.hid hkd
  clear hkd
  clear HGB
  cases gb <;> (
    go_wp2_with (go_at_call 24; refine HR.out.mono ?_; rintro e w3 ⟨rfl, hb⟩
                 have HB3 := Lib.hid (bunbox hb (Nat.le_refl _) (by simp))
                 clear hb x0 x1 x2 x3 x4 x5
                 obtain ⟨x0, x1, x2, x3, x4, x5⟩ := (BX.out.later HB3.out HS1.out).six)
    go_ret
    first
      | exact ⟨by rw [Bool.false_and]; rfl, bstep HB1.out HB3.out HB1.out.size⟩
      | exact ⟨by rw [Bool.true_and, ← HKD.out]; rfl, bstep HB1.out HB3.out HB1.out.size⟩)

end Go.Proofs.YtlniokpekcoodaaGreatDoor
