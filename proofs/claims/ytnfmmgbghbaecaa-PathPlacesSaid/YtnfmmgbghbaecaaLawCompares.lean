/-
  TreeCompares, walked.
-/
import Derived.Test.YtnfmmgbghbaecaaLawOrders
import Derived.Test.YtnfmmgbghbaecaaRSame
import Derived.Test.YtnfmmgbghbaecaaRCompare
import Derived.Test.YtnfmmgbghbaecaaTruth
set_option linter.unusedVariables false
set_option linter.unusedSimpArgs false
namespace Go.Proofs.Ytnfmmgbghbaecaa
open Go.RowKit Go.Sort

/-- Two values behind each other in a new block. -/
theorem two_values {w1 : World} {R1 R2 : Nat → Prop} {t u : T} {k k' : Int} {b b' : Bool} {n n' : Int} {s s' : ByteArray} {la la' : Option Addr} {ll ll' lc lc' : Nat} {ma ma' : Option Addr} {ml ml' mc mc' : Nat}
    (h1 : Lies w1 R1 t #[.int .i64 k, .bool b, .int .i64 n, .string s, .slice la ll lc, .slice ma ml mc]) (h2 : Lies w1 R2 u #[.int .i64 k', .bool b', .int .i64 n', .string s', .slice la' ll' lc', .slice ma' ml' mc']) :
    SliceV (w1.alloc (.cells #[.int .i64 k, .bool b, .int .i64 n, .string s, .slice la ll lc, .slice ma ml mc, .int .i64 k', .bool b', .int .i64 n', .string s', .slice la' ll' lc', .slice ma' ml' mc'] 25)) (fun _ => True) [t, u] (some ⟨w1.heap.size, 0, none⟩) 2
      (fun i => if i = 0 then #[.int .i64 k, .bool b, .int .i64 n, .string s, .slice la ll lc, .slice ma ml mc] else #[.int .i64 k', .bool b', .int .i64 n', .string s', .slice la' ll' lc', .slice ma' ml' mc']) := by
  have hb := Below.alloc (Below.refl w1.heap.size w1) (Nat.le_refl _) (.cells #[.int .i64 k, .bool b, .int .i64 n, .string s, .slice la ll lc, .slice ma ml mc, .int .i64 k', .bool b', .int .i64 n', .string s', .slice la' ll' lc', .slice ma' ml' mc'] 25)
  refine ⟨⟨Nat.le_refl 2, (by decide : 2 * 88 ≤ 140737488355328), by simp, fun _ => ⟨_, _, rfl, trivial⟩, by omega⟩, fun i hi bl ol e => ?_, fun i hi => ?_⟩
  · simp only [Option.some.injEq, Addr.mk.injEq, and_true] at e
    obtain ⟨rfl, rfl⟩ := e
    have hi3 : i < 2 := hi
    intro j hj
    have hj6 : j < 6 := by
      rcases (by omega : i = 0 ∨ i = 1) with rfl | rfl <;> exact hj
    rw [Nat.zero_add, World.cell?_alloc_new]
    rcases (by omega : i = 0 ∨ i = 1) with rfl | rfl <;> rcases (by omega : j = 0 ∨ j = 1 ∨ j = 2 ∨ j = 3 ∨ j = 4 ∨ j = 5) with rfl | rfl | rfl | rfl | rfl | rfl <;> rfl
  · have hi3 : i < 2 := hi
    rcases (by omega : i = 0 ∨ i = 1) with rfl | rfl
    · exact (h1.later hb).weaken fun _ _ => trivial
    · exact (h2.later hb).weaken fun _ _ => trivial

/-- The boxes of two arguments, later. -/
theorem arg_boxes2 {w wr : World} {A B : Array Value} {t1 t2 : TypeId} {o3 : Obj} {N : Nat} (h : Below N (((w.alloc (.cells A t1)).alloc (.cells B t2)).alloc o3) wr) (hN : w.heap.size + 2 ≤ N) (j : Nat) :
    wr.cell? ⟨w.heap.size, j, none⟩ = A[j]? ∧ wr.cell? ⟨w.heap.size + 1, j, none⟩ = B[j]? := by
  have e1 : w.heap.size + 1 = (w.alloc (.cells A t1)).heap.size := by simp
  refine ⟨?_, ?_⟩
  · rw [h.cell (p := ⟨w.heap.size, j, none⟩) (by simp only; omega), World.cell?_alloc_lt _ _ _ (by simp; omega), World.cell?_alloc_lt _ _ _ (by simp), World.cell?_alloc_new]
  · rw [h.cell (p := ⟨w.heap.size + 1, j, none⟩) (by simp only; omega), World.cell?_alloc_lt _ _ _ (by simp), e1, World.cell?_alloc_new]

set_option maxRecDepth 100000 in
set_option maxHeartbeats 1600000 in
theorem treeCompares_any {w0 : World} {R1 R2 : Nat → Prop} {t u : T} {cs ds : Array Value} (h1 : Lies w0 R1 t cs) (h2 : Lies w0 R2 u ds) (w : World) (hw : Below w0.heap.size w0 w) :
    Calls Try.prog 4 #[.agg cs, .agg ds] w fun e w' => e = .returned (.bool true) ∧ Below w.heap.size w w' := by
  have C12 := Lib.hid (fun w hw => tCompare_any h1 h2 w hw)
  have D12 := Lib.hid (fun w hw => rCompare_any h1 h2 w hw)
  have S12 := Lib.hid (fun w hw => tSame_any h1 h2 w hw)
  have G12 := Lib.hid (fun w hw => rSame_any h1 h2 w hw)
  obtain ⟨k, b, n, s, la, ll, lc, ma, ml, mc, rfl⟩ := h1.six
  obtain ⟨k', b', n', s', la', ll', lc', ma', ml', mc', rfl⟩ := h2.six
  have hw2 := (((Below.refl w.heap.size w).alloc (Nat.le_refl _) (.cells #[.int .i64 k, .bool b, .int .i64 n, .string s, .slice la ll lc, .slice ma ml mc] 25)).alloc (by simp) (.cells #[.int .i64 k', .bool b', .int .i64 n', .string s', .slice la' ll' lc', .slice ma' ml' mc'] 25))
  have g2 := bstep hw hw2 hw.size
  have hw3 := hw2.alloc (by simp; omega) (.cells #[.int .i64 k, .bool b, .int .i64 n, .string s, .slice la ll lc, .slice ma ml mc, .int .i64 k', .bool b', .int .i64 n', .string s', .slice la' ll' lc', .slice ma' ml' mc'] 25)
  have HS := Lib.hid (two_values (h1.later g2) (h2.later g2))
  have HAB := Lib.hid (fun (wr : World) hb => arg_boxes2 (w := w) (wr := wr) (N := w.heap.size + 3) (A := #[.int .i64 k, .bool b, .int .i64 n, .string s, .slice la ll lc, .slice ma ml mc]) (t1 := 25) (B := #[.int .i64 k', .bool b', .int .i64 n', .string s', .slice la' ll' lc', .slice ma' ml' mc']) (t2 := 25) (o3 := .cells #[.int .i64 k, .bool b, .int .i64 n, .string s, .slice la ll lc, .slice ma ml mc, .int .i64 k', .bool b', .int .i64 n', .string s', .slice la' ll' lc', .slice ma' ml' mc'] 25) hb (by omega))
  have HW3 := Lib.hid hw3
  clear hw2 g2 hw3
  have hsz : ((w.alloc (.cells #[.int .i64 k, .bool b, .int .i64 n, .string s, .slice la ll lc, .slice ma ml mc] 25)).alloc (.cells #[.int .i64 k', .bool b', .int .i64 n', .string s', .slice la' ll' lc', .slice ma' ml' mc'] 25)).heap.size = w.heap.size + 1 + 1 := by simp
  go_enter Try.func4, Try.ntmps4
  go_wp2_with fail
  have HR := right_any HS.out _ (Below.refl _ _)
  rw [hsz] at HR
  refine HR.mono ?_
  rintro e w5 ⟨rfl, hb5⟩
  cases hg : [t, u].all T.good with
  | false =>
    go_wp2_with fail
    refine (awake_any _).mono ?_
    rintro e w6 ⟨rfl, hb6⟩
    go_wp2_with fail
    go_ret
    have c5 := bstep HW3.out hb5 (by simp; omega)
    exact ⟨rfl, bstep c5 hb6 c5.size⟩
  | true =>
    have hgt : t.good = true := by simp at hg; exact hg.1
    have hgu : u.good = true := by simp at hg; exact hg.2
    have hb5' := hb5.mono (show w.heap.size + 3 ≤ _ by simp)
    have c5 := Lib.hid (bstep HW3.out hb5 (by simp; omega))
    have f5 := bstep hw c5.out hw.size
    have xa0 : w5.cell? ⟨w.heap.size, 0, none⟩ = some (.int .i64 k) := (HAB.out _ hb5' 0).1
    have ra0 := cell_regrown xa0
    have xa1 : w5.cell? ⟨w.heap.size, 1, none⟩ = some (.bool b) := (HAB.out _ hb5' 1).1
    have ra1 := cell_regrown xa1
    have xa2 : w5.cell? ⟨w.heap.size, 2, none⟩ = some (.int .i64 n) := (HAB.out _ hb5' 2).1
    have ra2 := cell_regrown xa2
    have xa3 : w5.cell? ⟨w.heap.size, 3, none⟩ = some (.string s) := (HAB.out _ hb5' 3).1
    have ra3 := cell_regrown xa3
    have xa4 : w5.cell? ⟨w.heap.size, 4, none⟩ = some (.slice la ll lc) := (HAB.out _ hb5' 4).1
    have ra4 := cell_regrown xa4
    have xa5 : w5.cell? ⟨w.heap.size, 5, none⟩ = some (.slice ma ml mc) := (HAB.out _ hb5' 5).1
    have ra5 := cell_regrown xa5
    have xb0 : w5.cell? ⟨w.heap.size + 1, 0, none⟩ = some (.int .i64 k') := (HAB.out _ hb5' 0).2
    have rb0 := cell_regrown xb0
    have xb1 : w5.cell? ⟨w.heap.size + 1, 1, none⟩ = some (.bool b') := (HAB.out _ hb5' 1).2
    have rb1 := cell_regrown xb1
    have xb2 : w5.cell? ⟨w.heap.size + 1, 2, none⟩ = some (.int .i64 n') := (HAB.out _ hb5' 2).2
    have rb2 := cell_regrown xb2
    have xb3 : w5.cell? ⟨w.heap.size + 1, 3, none⟩ = some (.string s') := (HAB.out _ hb5' 3).2
    have rb3 := cell_regrown xb3
    have xb4 : w5.cell? ⟨w.heap.size + 1, 4, none⟩ = some (.slice la' ll' lc') := (HAB.out _ hb5' 4).2
    have rb4 := cell_regrown xb4
    have xb5 : w5.cell? ⟨w.heap.size + 1, 5, none⟩ = some (.slice ma' ml' mc') := (HAB.out _ hb5' 5).2
    have rb5 := cell_regrown xb5
    have T1 := fun w => tTruth_any k b n s la ll lc ma ml mc w
    have T2 : ∀ w, Calls Try.prog 35 #[.agg #[.int .i64 k, .bool b, .int .i64 n, .string s, .slice la ll lc, .slice ma ml mc]] w fun e w' => e = .returned (.bool (countsB k b n s ll ml)) ∧ Below w.heap.size w w' := fun w => rTruth_any k b n s la ll lc ma ml mc w
    have S2 := S12.out
    rw [good_same hgt hgu] at S2
    have D2 := D12.out
    have C2 := C12.out
    have G2 := G12.out
    generalize countsB k b n s ll ml = z at T1 T2
    generalize T.cmp t u = x at C2 D2
    generalize T.same t u = y at S2 G2
    have Q0 := fun dd os => Calls.regrown_of (awake_any (grow (redrawn w5 dd) os))
    have Q1 := fun dd os => Calls.regrown_of (C2 (grow (redrawn w5 dd) os) (bstep f5 (below_regrown w5 dd os) f5.size))
    have Q2 := fun dd os => Calls.regrown_of (D2 (grow (redrawn w5 dd) os) (bstep f5 (below_regrown w5 dd os) f5.size))
    have Q3 := fun dd os => Calls.regrown_of (S2 (grow (redrawn w5 dd) os) (bstep f5 (below_regrown w5 dd os) f5.size))
    have Q4 := fun dd os => Calls.regrown_of (G2 (grow (redrawn w5 dd) os) (bstep f5 (below_regrown w5 dd os) f5.size))
    have Q5 := fun dd os => Calls.regrown_of (T1 (grow (redrawn w5 dd) os))
    have Q6 := fun dd os => Calls.regrown_of (T2 (grow (redrawn w5 dd) os))
    clear hg hgt hgu T1 T2 S2 D2 C2 G2
    go_wp2_with fail
    refine wp_region_quiet_below (by kernel_rfl) (by kernel_rfl) ?_
    repeat (go_big_quiet_step (fail))
    go_big_quiet_step (exact Q0 _ _)
    repeat (go_big_quiet_step (fail))
    go_big_quiet_step (exact Q1 _ _)
    repeat (go_big_quiet_step (fail))
    go_big_quiet_step (exact Q2 _ _)
    repeat (go_big_quiet_step (fail))
    go_big_quiet_step (exact Q3 _ _)
    repeat (go_big_quiet_step (fail))
    go_big_quiet_step (exact Q4 _ _)
    repeat (go_big_quiet_step (fail))
    go_big_quiet_step (exact Q5 _ _)
    repeat (go_big_quiet_step (fail))
    go_big_quiet_step (exact Q6 _ _)
    repeat (go_big_quiet_step (fail))
    refine wpQuiet_nil ?_
    intro _ hw'
    obtain ⟨⟨dq, osq⟩, hw''⟩ := hw'
    subst hw''
    go_wp2_with fail
    go_ret
    exact ⟨rfl, bstep c5.out (below_regrown w5 dq osq) c5.out.size⟩

end Go.Proofs.Ytnfmmgbghbaecaa
