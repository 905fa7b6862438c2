/-
  TreeOrders, walked.
-/
import Derived.Test.YtkonkjaabkmecaaGreatDoorAwake
import Derived.Test.YtkonkjaabkmecaaGreatDoorOrder
import Derived.Test.YtkonkjaabkmecaaGreatDoorRight
set_option linter.unusedVariables false
set_option linter.unusedSimpArgs false
namespace Go.Proofs.YtkonkjaabkmecaaGreatDoor
open Go.RowKit Go.Sort

theorem tSame_any {w0 : World} {R1 R2 : Nat → Prop} {t u : T} {cs ds : Array Value} (h : Lies w0 R1 t cs) (h2 : Lies w0 R2 u ds) (w : World) (hw : Below w0.heap.size w0 w) :
    Calls Tryz.prog 138 #[.agg cs, .agg ds] w fun e w' => e = .returned (.bool (T.cmp t u == 0)) ∧ Below w.heap.size w w' := by
  have HC := Lib.hid (fun w hw => tCompare_any h h2 w hw)
  obtain ⟨k, b, n, s, la, ll, lc, ma, ml, mc, rfl⟩ := h.six
  obtain ⟨k', b', n', s', la', ll', lc', ma', ml', mc', rfl⟩ := h2.six
  go_enter Tryz.func138, Tryz.ntmps138
  go_wp2_with fail
  refine (HC.out _ (bbox (bbox hw _ hw.size) _ (by have := hw.size; simp; omega))).mono ?_
  rintro e w1 ⟨rfl, hb1⟩
  go_wp2_with fail
  go_ret
  exact ⟨rfl, bunbox (bunbox hb1 (Nat.le_refl _) (by simp)) (by simp) (by simp)⟩

/-- Three values behind each other in a new block. -/
theorem three_values {w1 : World} {R1 R2 R3 : Nat → Prop} {t u v : T} {k k' k'' : Int} {b b' b'' : Bool} {n n' n'' : Int} {s s' s'' : ByteArray} {la la' la'' : Option Addr} {ll ll' ll'' lc lc' lc'' : Nat} {ma ma' ma'' : Option Addr} {ml ml' ml'' mc mc' mc'' : Nat}
    (h1 : Lies w1 R1 t #[.int .i64 k, .bool b, .int .i64 n, .string s, .slice la ll lc, .slice ma ml mc]) (h2 : Lies w1 R2 u #[.int .i64 k', .bool b', .int .i64 n', .string s', .slice la' ll' lc', .slice ma' ml' mc']) (h3 : Lies w1 R3 v #[.int .i64 k'', .bool b'', .int .i64 n'', .string s'', .slice la'' ll'' lc'', .slice ma'' ml'' mc'']) :
    SliceV (w1.alloc (.cells #[.int .i64 k, .bool b, .int .i64 n, .string s, .slice la ll lc, .slice ma ml mc, .int .i64 k', .bool b', .int .i64 n', .string s', .slice la' ll' lc', .slice ma' ml' mc', .int .i64 k'', .bool b'', .int .i64 n'', .string s'', .slice la'' ll'' lc'', .slice ma'' ml'' mc''] 27)) (fun _ => True) [t, u, v] (some ⟨w1.heap.size, 0, none⟩) 3
      (fun i => if i = 0 then #[.int .i64 k, .bool b, .int .i64 n, .string s, .slice la ll lc, .slice ma ml mc] else if i = 1 then #[.int .i64 k', .bool b', .int .i64 n', .string s', .slice la' ll' lc', .slice ma' ml' mc'] else #[.int .i64 k'', .bool b'', .int .i64 n'', .string s'', .slice la'' ll'' lc'', .slice ma'' ml'' mc'']) := by
  have hb := Below.alloc (Below.refl w1.heap.size w1) (Nat.le_refl _) (.cells #[.int .i64 k, .bool b, .int .i64 n, .string s, .slice la ll lc, .slice ma ml mc, .int .i64 k', .bool b', .int .i64 n', .string s', .slice la' ll' lc', .slice ma' ml' mc', .int .i64 k'', .bool b'', .int .i64 n'', .string s'', .slice la'' ll'' lc'', .slice ma'' ml'' mc''] 27)
  refine ⟨⟨Nat.le_refl 3, (by decide : 3 * 88 ≤ 140737488355328), by simp, fun _ => ⟨_, _, rfl, trivial⟩, by omega⟩, fun i hi bl ol e => ?_, fun i hi => ?_⟩
  · simp only [Option.some.injEq, Addr.mk.injEq, and_true] at e
    obtain ⟨rfl, rfl⟩ := e
    have hi3 : i < 3 := hi
    intro j hj
    have hj6 : j < 6 := by
      rcases (by omega : i = 0 ∨ i = 1 ∨ i = 2) with rfl | rfl | rfl <;> exact hj
    rw [Nat.zero_add, World.cell?_alloc_new]
    rcases (by omega : i = 0 ∨ i = 1 ∨ i = 2) with rfl | rfl | rfl <;> rcases (by omega : j = 0 ∨ j = 1 ∨ j = 2 ∨ j = 3 ∨ j = 4 ∨ j = 5) with rfl | rfl | rfl | rfl | rfl | rfl <;> rfl
  · have hi3 : i < 3 := hi
    rcases (by omega : i = 0 ∨ i = 1 ∨ i = 2) with rfl | rfl | rfl
    · exact (h1.later hb).weaken fun _ _ => trivial
    · exact (h2.later hb).weaken fun _ _ => trivial
    · exact (h3.later hb).weaken fun _ _ => trivial

/-- The boxes of three arguments, later. -/
theorem arg_boxes {w wr : World} {A B C : Array Value} {t1 t2 t3 : TypeId} {o4 : Obj} {N : Nat} (h : Below N ((((w.alloc (.cells A t1)).alloc (.cells B t2)).alloc (.cells C t3)).alloc o4) wr) (hN : w.heap.size + 3 ≤ N) (j : Nat) :
    wr.cell? ⟨w.heap.size, j, none⟩ = A[j]? ∧ wr.cell? ⟨w.heap.size + 1, j, none⟩ = B[j]? ∧ wr.cell? ⟨w.heap.size + 1 + 1, j, none⟩ = C[j]? := by
  have e1 : w.heap.size + 1 = (w.alloc (.cells A t1)).heap.size := by simp
  have e2 : w.heap.size + 1 + 1 = ((w.alloc (.cells A t1)).alloc (.cells B t2)).heap.size := by simp
  refine ⟨?_, ?_, ?_⟩
  · rw [h.cell (p := ⟨w.heap.size, j, none⟩) (by simp only; omega), World.cell?_alloc_lt _ _ _ (by simp; omega), World.cell?_alloc_lt _ _ _ (by simp; omega), World.cell?_alloc_lt _ _ _ (by simp), World.cell?_alloc_new]
  · rw [h.cell (p := ⟨w.heap.size + 1, j, none⟩) (by simp only; omega), World.cell?_alloc_lt _ _ _ (by simp), World.cell?_alloc_lt _ _ _ (by simp), e1, World.cell?_alloc_new]
  · rw [h.cell (p := ⟨w.heap.size + 1 + 1, j, none⟩) (by simp only; omega), World.cell?_alloc_lt _ _ _ (by simp), e2, World.cell?_alloc_new]

end Go.Proofs.YtkonkjaabkmecaaGreatDoor
