/-
  TreeCompares, walked.
-/
import Derived.Test.YtcafackiofncmaaLawOrders
import Derived.Test.YtcafackiofncmaaRSame
import Derived.Test.YtcafackiofncmaaRCompare
import Derived.Test.YtcafackiofncmaaTruth
set_option linter.unusedVariables false
set_option linter.unusedSimpArgs false
namespace Go.Proofs.Ytcafackiofncmaa
open Go.RowKit Go.Sort

/-- Two values behind each other in a new block. -/
theorem two_values {w1 : World} {R1 R2 : Nat → Prop} {t u : T} {k k' : Int} {b b' : Bool} {n n' : Int} {s s' : ByteArray} {la la' : Option Addr} {ll ll' lc lc' : Nat} {ma ma' : Option Addr} {ml ml' mc mc' : Nat}
    (h1 : Lies w1 R1 t #[.int .i64 k, .bool b, .int .i64 n, .string s, .slice la ll lc, .slice ma ml mc]) (h2 : Lies w1 R2 u #[.int .i64 k', .bool b', .int .i64 n', .string s', .slice la' ll' lc', .slice ma' ml' mc']) :
    SliceV (w1.alloc (.cells #[.int .i64 k, .bool b, .int .i64 n, .string s, .slice la ll lc, .slice ma ml mc, .int .i64 k', .bool b', .int .i64 n', .string s', .slice la' ll' lc', .slice ma' ml' mc'] 25)) (fun _ => True) [t, u] (some ⟨w1.heap.size, 0, none⟩) 2
      (fun i => if i = 0 then #[.int .i64 k, .bool b, .int .i64 n, .string s, .slice la ll lc, .slice ma ml mc] else #[.int .i64 k', .bool b', .int .i64 n', .string s', .slice la' ll' lc', .slice ma' ml' mc']) := by
  have hb := Below.alloc (Below.refl w1.heap.size w1) (Nat.le_refl _) (.cells #[.int .i64 k, .bool b, .int .i64 n, .string s, .slice la ll lc, .slice ma ml mc, .int .i64 k', .bool b', .int .i64 n', .string s', .slice la' ll' lc', .slice ma' ml' mc'] 25)
  refine ⟨⟨Nat.le_refl 2, (by decide : 2 * 88 ≤ 140737488355328), by simp, fun _ => ⟨_, _, rfl, trivial⟩, by omega⟩, fun i hi bl ol e => ?_, fun i hi => ?_⟩
  · simp only [Option.some.injEq, Addr.mk.injEq, and_true] at e
    obtain ⟨rfl, rfl⟩ := e
    have hi3 : i < 2 := hi
    intro j hj
    have hj6 : j < 6 := by
      rcases (by omega : i = 0 ∨ i = 1) with rfl | rfl <;> exact hj
    rw [Nat.zero_add, World.cell?_alloc_new]
    rcases (by omega : i = 0 ∨ i = 1) with rfl | rfl <;> rcases (by omega : j = 0 ∨ j = 1 ∨ j = 2 ∨ j = 3 ∨ j = 4 ∨ j = 5) with rfl | rfl | rfl | rfl | rfl | rfl <;> rfl
  · have hi3 : i < 2 := hi
    rcases (by omega : i = 0 ∨ i = 1) with rfl | rfl
    · exact (h1.later hb).weaken fun _ _ => trivial
    · exact (h2.later hb).weaken fun _ _ => trivial

/-- The boxes of two arguments, later. -/
theorem arg_boxes2 {w wr : World} {A B : Array Value} {t1 t2 : TypeId} {o3 : Obj} {N : Nat} (h : Below N (((w.alloc (.cells A t1)).alloc (.cells B t2)).alloc o3) wr) (hN : w.heap.size + 2 ≤ N) (j : Nat) :
    wr.cell? ⟨w.heap.size, j, none⟩ = A[j]? ∧ wr.cell? ⟨w.heap.size + 1, j, none⟩ = B[j]? := by
  have e1 : w.heap.size + 1 = (w.alloc (.cells A t1)).heap.size := by simp
  refine ⟨?_, ?_⟩
  · rw [h.cell (p := ⟨w.heap.size, j, none⟩) (by simp only; omega), World.cell?_alloc_lt _ _ _ (by simp; omega), World.cell?_alloc_lt _ _ _ (by simp), World.cell?_alloc_new]
  · rw [h.cell (p := ⟨w.heap.size + 1, j, none⟩) (by simp only; omega), World.cell?_alloc_lt _ _ _ (by simp), e1, World.cell?_alloc_new]

end Go.Proofs.Ytcafackiofncmaa
