/-
  TreeOrders, walked.
-/
import Derived.Test.YtnfmmgbghbaecaaGetM
import Derived.Test.YtnfmmgbghbaecaaOrder
import Derived.Test.YtnfmmgbghbaecaaRight
set_option linter.unusedVariables false
set_option linter.unusedSimpArgs false
namespace Go.Proofs.Ytnfmmgbghbaecaa
open Go.RowKit Go.Sort

theorem tSame_any {w0 : World} {R1 R2 : Nat → Prop} {t u : T} {cs ds : Array Value} (h : Lies w0 R1 t cs) (h2 : Lies w0 R2 u ds) (w : World) (hw : Below w0.heap.size w0 w) :
    Calls Try.prog 33 #[.agg cs, .agg ds] w fun e w' => e = .returned (.bool (T.cmp t u == 0)) ∧ Below w.heap.size w w' := by
  have HC := Lib.hid (fun w hw => tCompare_any h h2 w hw)
  obtain ⟨k, b, n, s, la, ll, lc, ma, ml, mc, rfl⟩ := h.six
  obtain ⟨k', b', n', s', la', ll', lc', ma', ml', mc', rfl⟩ := h2.six
  go_enter Try.func33, Try.ntmps33
  go_wp2_with fail
  refine (HC.out _ (bbox (bbox hw _ hw.size) _ (by have := hw.size; simp; omega))).mono ?_
  rintro e w1 ⟨rfl, hb1⟩
  go_wp2_with fail
  go_ret
  exact ⟨rfl, bunbox (bunbox hb1 (Nat.le_refl _) (by simp)) (by simp) (by simp)⟩

/-- Three values behind each other in a new block. -/
theorem three_values {w1 : World} {R1 R2 R3 : Nat → Prop} {t u v : T} {k k' k'' : Int} {b b' b'' : Bool} {n n' n'' : Int} {s s' s'' : ByteArray} {la la' la'' : Option Addr} {ll ll' ll'' lc lc' lc'' : Nat} {ma ma' ma'' : Option Addr} {ml ml' ml'' mc mc' mc'' : Nat}
    (h1 : Lies w1 R1 t #[.int .i64 k, .bool b, .int .i64 n, .string s, .slice la ll lc, .slice ma ml mc]) (h2 : Lies w1 R2 u #[.int .i64 k', .bool b', .int .i64 n', .string s', .slice la' ll' lc', .slice ma' ml' mc']) (h3 : Lies w1 R3 v #[.int .i64 k'', .bool b'', .int .i64 n'', .string s'', .slice la'' ll'' lc'', .slice ma'' ml'' mc'']) :
    SliceV (w1.alloc (.cells #[.int .i64 k, .bool b, .int .i64 n, .string s, .slice la ll lc, .slice ma ml mc, .int .i64 k', .bool b', .int .i64 n', .string s', .slice la' ll' lc', .slice ma' ml' mc', .int .i64 k'', .bool b'', .int .i64 n'', .string s'', .slice la'' ll'' lc'', .slice ma'' ml'' mc''] 25)) (fun _ => True) [t, u, v] (some ⟨w1.heap.size, 0, none⟩) 3
      (fun i => if i = 0 then #[.int .i64 k, .bool b, .int .i64 n, .string s, .slice la ll lc, .slice ma ml mc] else if i = 1 then #[.int .i64 k', .bool b', .int .i64 n', .string s', .slice la' ll' lc', .slice ma' ml' mc'] else #[.int .i64 k'', .bool b'', .int .i64 n'', .string s'', .slice la'' ll'' lc'', .slice ma'' ml'' mc'']) := by
  have hb := Below.alloc (Below.refl w1.heap.size w1) (Nat.le_refl _) (.cells #[.int .i64 k, .bool b, .int .i64 n, .string s, .slice la ll lc, .slice ma ml mc, .int .i64 k', .bool b', .int .i64 n', .string s', .slice la' ll' lc', .slice ma' ml' mc', .int .i64 k'', .bool b'', .int .i64 n'', .string s'', .slice la'' ll'' lc'', .slice ma'' ml'' mc''] 25)
  refine ⟨⟨Nat.le_refl 3, (by decide : 3 * 88 ≤ 140737488355328), by simp, fun _ => ⟨_, _, rfl, trivial⟩, by omega⟩, fun i hi bl ol e => ?_, fun i hi => ?_⟩
  · simp only [Option.some.injEq, Addr.mk.injEq, and_true] at e
    obtain ⟨rfl, rfl⟩ := e
    have hi3 : i < 3 := hi
    intro j hj
    have hj6 : j < 6 := by
      rcases (by omega : i = 0 ∨ i = 1 ∨ i = 2) with rfl | rfl | rfl <;> exact hj
    rw [Nat.zero_add, World.cell?_alloc_new]
    rcases (by omega : i = 0 ∨ i = 1 ∨ i = 2) with rfl | rfl | rfl <;> rcases (by omega : j = 0 ∨ j = 1 ∨ j = 2 ∨ j = 3 ∨ j = 4 ∨ j = 5) with rfl | rfl | rfl | rfl | rfl | rfl <;> rfl
  · have hi3 : i < 3 := hi
    rcases (by omega : i = 0 ∨ i = 1 ∨ i = 2) with rfl | rfl | rfl
    · exact (h1.later hb).weaken fun _ _ => trivial
    · exact (h2.later hb).weaken fun _ _ => trivial
    · exact (h3.later hb).weaken fun _ _ => trivial

/-- The boxes of three arguments, later. -/
theorem arg_boxes {w wr : World} {A B C : Array Value} {t1 t2 t3 : TypeId} {o4 : Obj} {N : Nat} (h : Below N ((((w.alloc (.cells A t1)).alloc (.cells B t2)).alloc (.cells C t3)).alloc o4) wr) (hN : w.heap.size + 3 ≤ N) (j : Nat) :
    wr.cell? ⟨w.heap.size, j, none⟩ = A[j]? ∧ wr.cell? ⟨w.heap.size + 1, j, none⟩ = B[j]? ∧ wr.cell? ⟨w.heap.size + 1 + 1, j, none⟩ = C[j]? := by
  have e1 : w.heap.size + 1 = (w.alloc (.cells A t1)).heap.size := by simp
  have e2 : w.heap.size + 1 + 1 = ((w.alloc (.cells A t1)).alloc (.cells B t2)).heap.size := by simp
  refine ⟨?_, ?_, ?_⟩
  · rw [h.cell (p := ⟨w.heap.size, j, none⟩) (by simp only; omega), World.cell?_alloc_lt _ _ _ (by simp; omega), World.cell?_alloc_lt _ _ _ (by simp; omega), World.cell?_alloc_lt _ _ _ (by simp), World.cell?_alloc_new]
  · rw [h.cell (p := ⟨w.heap.size + 1, j, none⟩) (by simp only; omega), World.cell?_alloc_lt _ _ _ (by simp), World.cell?_alloc_lt _ _ _ (by simp), e1, World.cell?_alloc_new]
  · rw [h.cell (p := ⟨w.heap.size + 1 + 1, j, none⟩) (by simp only; omega), World.cell?_alloc_lt _ _ _ (by simp), e2, World.cell?_alloc_new]

set_option maxRecDepth 100000 in
set_option maxHeartbeats 1600000 in
theorem treeOrders_any {w0 : World} {R1 R2 R3 : Nat → Prop} {t u v : T} {cs ds es : Array Value} (h1 : Lies w0 R1 t cs) (h2 : Lies w0 R2 u ds) (h3 : Lies w0 R3 v es) (w : World) (hw : Below w0.heap.size w0 w) :
    Calls Try.prog 7 #[.agg cs, .agg ds, .agg es] w fun e w' => e = .returned (.bool true) ∧ Below w.heap.size w w' := by
  have C12 := Lib.hid (fun w hw => tCompare_any h1 h2 w hw)
  have C23 := Lib.hid (fun w hw => tCompare_any h2 h3 w hw)
  have C13 := Lib.hid (fun w hw => tCompare_any h1 h3 w hw)
  have C21 := Lib.hid (fun w hw => tCompare_any h2 h1 w hw)
  have C11 := Lib.hid (fun w hw => tCompare_any h1 h1 w hw)
  have S12 := Lib.hid (fun w hw => tSame_any h1 h2 w hw)
  have hx1 := T.cmp_range t u
  have hl1 := (T.ord t).le u v
  have hl2 := (T.ord t).less u v
  rw [(T.ord t).anti u] at C21
  rw [(T.ord t).refl] at C11
  have hy1 := T.cmp_range u v
  have hz1 := T.cmp_range t v
  generalize T.cmp t u = x at C12 C21 S12 hx1 hl1 hl2
  generalize T.cmp u v = y at C23 hl1 hl2 hy1
  generalize T.cmp t v = z at C13 hl1 hl2 hz1
  have hneg : IntKind.i64.wrap (-x) = -x := IntWalk.i64_in _ (by omega)
  obtain ⟨k, b, n, s, la, ll, lc, ma, ml, mc, rfl⟩ := h1.six
  obtain ⟨k', b', n', s', la', ll', lc', ma', ml', mc', rfl⟩ := h2.six
  obtain ⟨k'', b'', n'', s'', la'', ll'', lc'', ma'', ml'', mc'', rfl⟩ := h3.six
  have hw3 := ((((Below.refl w.heap.size w).alloc (Nat.le_refl _) (.cells #[.int .i64 k, .bool b, .int .i64 n, .string s, .slice la ll lc, .slice ma ml mc] 25)).alloc (by simp) (.cells #[.int .i64 k', .bool b', .int .i64 n', .string s', .slice la' ll' lc', .slice ma' ml' mc'] 25)).alloc (by simp; omega) (.cells #[.int .i64 k'', .bool b'', .int .i64 n'', .string s'', .slice la'' ll'' lc'', .slice ma'' ml'' mc''] 25))
  have g3 := bstep hw hw3 hw.size
  have hw4 := hw3.alloc (by simp; omega) (.cells #[.int .i64 k, .bool b, .int .i64 n, .string s, .slice la ll lc, .slice ma ml mc, .int .i64 k', .bool b', .int .i64 n', .string s', .slice la' ll' lc', .slice ma' ml' mc', .int .i64 k'', .bool b'', .int .i64 n'', .string s'', .slice la'' ll'' lc'', .slice ma'' ml'' mc''] 25)
  have HS := Lib.hid (three_values (h1.later g3) (h2.later g3) (h3.later g3))
  have AB := fun (wr : World) hb => arg_boxes (w := w) (wr := wr) (N := w.heap.size + 4) (A := #[.int .i64 k, .bool b, .int .i64 n, .string s, .slice la ll lc, .slice ma ml mc]) (t1 := 25) (B := #[.int .i64 k', .bool b', .int .i64 n', .string s', .slice la' ll' lc', .slice ma' ml' mc']) (t2 := 25) (C := #[.int .i64 k'', .bool b'', .int .i64 n'', .string s'', .slice la'' ll'' lc'', .slice ma'' ml'' mc'']) (t3 := 25) (o4 := .cells #[.int .i64 k, .bool b, .int .i64 n, .string s, .slice la ll lc, .slice ma ml mc, .int .i64 k', .bool b', .int .i64 n', .string s', .slice la' ll' lc', .slice ma' ml' mc', .int .i64 k'', .bool b'', .int .i64 n'', .string s'', .slice la'' ll'' lc'', .slice ma'' ml'' mc''] 25) hb (by omega)
  have HAB := Lib.hid AB
  have HW4 := Lib.hid hw4
  clear AB hw3 g3 hw4
  have hsz : (((w.alloc (.cells #[.int .i64 k, .bool b, .int .i64 n, .string s, .slice la ll lc, .slice ma ml mc] 25)).alloc (.cells #[.int .i64 k', .bool b', .int .i64 n', .string s', .slice la' ll' lc', .slice ma' ml' mc'] 25)).alloc (.cells #[.int .i64 k'', .bool b'', .int .i64 n'', .string s'', .slice la'' ll'' lc'', .slice ma'' ml'' mc''] 25)).heap.size = w.heap.size + 1 + 1 + 1 := by simp
  go_enter Try.func7, Try.ntmps7
  go_wp2_with fail
  have HR := right_any HS.out _ (Below.refl _ _)
  rw [hsz] at HR
  refine HR.mono ?_
  rintro e w5 ⟨rfl, hb5⟩
  cases hg : [t, u, v].all T.good with
  | false =>
    go_wp2_with fail
    refine (awake_any _).mono ?_
    rintro e w6 ⟨rfl, hb6⟩
    go_wp2_with fail
    go_ret
    have c5 := bstep HW4.out hb5 (by simp; omega)
    exact ⟨rfl, bstep c5 hb6 c5.size⟩
  | true =>
    have hb5' := hb5.mono (show w.heap.size + 4 ≤ _ by simp)
    have f5 := bstep hw (bstep HW4.out hb5 (by simp; omega)) hw.size
    have xa0 : w5.cell? ⟨w.heap.size, 0, none⟩ = some (.int .i64 k) := (HAB.out _ hb5' 0).1
    have ra0 := cell_regrown xa0
    have xa1 : w5.cell? ⟨w.heap.size, 1, none⟩ = some (.bool b) := (HAB.out _ hb5' 1).1
    have ra1 := cell_regrown xa1
    have xa2 : w5.cell? ⟨w.heap.size, 2, none⟩ = some (.int .i64 n) := (HAB.out _ hb5' 2).1
    have ra2 := cell_regrown xa2
    have xa3 : w5.cell? ⟨w.heap.size, 3, none⟩ = some (.string s) := (HAB.out _ hb5' 3).1
    have ra3 := cell_regrown xa3
    have xa4 : w5.cell? ⟨w.heap.size, 4, none⟩ = some (.slice la ll lc) := (HAB.out _ hb5' 4).1
    have ra4 := cell_regrown xa4
    have xa5 : w5.cell? ⟨w.heap.size, 5, none⟩ = some (.slice ma ml mc) := (HAB.out _ hb5' 5).1
    have ra5 := cell_regrown xa5
    have xb0 : w5.cell? ⟨w.heap.size + 1, 0, none⟩ = some (.int .i64 k') := (HAB.out _ hb5' 0).2.1
    have rb0 := cell_regrown xb0
    have xb1 : w5.cell? ⟨w.heap.size + 1, 1, none⟩ = some (.bool b') := (HAB.out _ hb5' 1).2.1
    have rb1 := cell_regrown xb1
    have xb2 : w5.cell? ⟨w.heap.size + 1, 2, none⟩ = some (.int .i64 n') := (HAB.out _ hb5' 2).2.1
    have rb2 := cell_regrown xb2
    have xb3 : w5.cell? ⟨w.heap.size + 1, 3, none⟩ = some (.string s') := (HAB.out _ hb5' 3).2.1
    have rb3 := cell_regrown xb3
    have xb4 : w5.cell? ⟨w.heap.size + 1, 4, none⟩ = some (.slice la' ll' lc') := (HAB.out _ hb5' 4).2.1
    have rb4 := cell_regrown xb4
    have xb5 : w5.cell? ⟨w.heap.size + 1, 5, none⟩ = some (.slice ma' ml' mc') := (HAB.out _ hb5' 5).2.1
    have rb5 := cell_regrown xb5
    have xc0 : w5.cell? ⟨w.heap.size + 1 + 1, 0, none⟩ = some (.int .i64 k'') := (HAB.out _ hb5' 0).2.2
    have rc0 := cell_regrown xc0
    have xc1 : w5.cell? ⟨w.heap.size + 1 + 1, 1, none⟩ = some (.bool b'') := (HAB.out _ hb5' 1).2.2
    have rc1 := cell_regrown xc1
    have xc2 : w5.cell? ⟨w.heap.size + 1 + 1, 2, none⟩ = some (.int .i64 n'') := (HAB.out _ hb5' 2).2.2
    have rc2 := cell_regrown xc2
    have xc3 : w5.cell? ⟨w.heap.size + 1 + 1, 3, none⟩ = some (.string s'') := (HAB.out _ hb5' 3).2.2
    have rc3 := cell_regrown xc3
    have xc4 : w5.cell? ⟨w.heap.size + 1 + 1, 4, none⟩ = some (.slice la'' ll'' lc'') := (HAB.out _ hb5' 4).2.2
    have rc4 := cell_regrown xc4
    have xc5 : w5.cell? ⟨w.heap.size + 1 + 1, 5, none⟩ = some (.slice ma'' ml'' mc'') := (HAB.out _ hb5' 5).2.2
    have rc5 := cell_regrown xc5
    have Q12 := fun dd os => Calls.regrown_of (C12.out (grow (redrawn w5 dd) os) (bstep f5 (below_regrown w5 dd os) f5.size))
    have Q23 := fun dd os => Calls.regrown_of (C23.out (grow (redrawn w5 dd) os) (bstep f5 (below_regrown w5 dd os) f5.size))
    have Q13 := fun dd os => Calls.regrown_of (C13.out (grow (redrawn w5 dd) os) (bstep f5 (below_regrown w5 dd os) f5.size))
    go_wp2_with fail
    refine wp_region_quiet_below (by kernel_rfl) (by kernel_rfl) ?_
    repeat (go_big_quiet_step (fail))
    go_big_quiet_step (exact Q12 _ _)
    repeat (go_big_quiet_step (fail))
    go_big_quiet_step (exact Q23 _ _)
    repeat (go_big_quiet_step (fail))
    go_big_quiet_step (exact Q13 _ _)
    repeat (go_big_quiet_step (fail))
    refine wpQuiet_nil ?_
    intro _ hw'
    obtain ⟨⟨dq, osq⟩, hw''⟩ := hw'
    subst hw''
    have hbq := below_regrown w5 dq osq
    simp only []
    generalize grow (redrawn w5 dq) osq = w6 at hbq ⊢
    have ya0 := cells_frame hbq xa0
    have ya1 := cells_frame hbq xa1
    have ya2 := cells_frame hbq xa2
    have ya3 := cells_frame hbq xa3
    have ya4 := cells_frame hbq xa4
    have ya5 := cells_frame hbq xa5
    have yb0 := cells_frame hbq xb0
    have yb1 := cells_frame hbq xb1
    have yb2 := cells_frame hbq xb2
    have yb3 := cells_frame hbq xb3
    have yb4 := cells_frame hbq xb4
    have yb5 := cells_frame hbq xb5
    clear xa0 ra0 xa1 ra1 xa2 ra2 xa3 ra3 xa4 ra4 xa5 ra5 xb0 rb0 xb1 rb1 xb2 rb2 xb3 rb3 xb4 rb4 xb5 rb5 xc0 rc0 xc1 rc1 xc2 rc2 xc3 rc3 xc4 rc4 xc5 rc5
    clear Q12 Q23 Q13
    have f6 := bstep f5 hbq f5.size
    go_wp2_with fail
    refine (C21.out _ f6).mono ?_
    rintro e w7 ⟨rfl, hb7⟩
    have za0 := cells_frame hb7 ya0
    have za1 := cells_frame hb7 ya1
    have za2 := cells_frame hb7 ya2
    have za3 := cells_frame hb7 ya3
    have za4 := cells_frame hb7 ya4
    have za5 := cells_frame hb7 ya5
    have zb0 := cells_frame hb7 yb0
    have zb1 := cells_frame hb7 yb1
    have zb2 := cells_frame hb7 yb2
    have zb3 := cells_frame hb7 yb3
    have zb4 := cells_frame hb7 yb4
    have zb5 := cells_frame hb7 yb5
    clear ya0 ya1 ya2 ya3 ya4 ya5 yb0 yb1 yb2 yb3 yb4 yb5
    have f7 := bstep f6 hb7 f6.size
    go_wp2_with fail
    refine (C11.out _ f7).mono ?_
    rintro e w8 ⟨rfl, hb8⟩
    have qa0 := cells_frame hb8 za0
    have qa1 := cells_frame hb8 za1
    have qa2 := cells_frame hb8 za2
    have qa3 := cells_frame hb8 za3
    have qa4 := cells_frame hb8 za4
    have qa5 := cells_frame hb8 za5
    have qb0 := cells_frame hb8 zb0
    have qb1 := cells_frame hb8 zb1
    have qb2 := cells_frame hb8 zb2
    have qb3 := cells_frame hb8 zb3
    have qb4 := cells_frame hb8 zb4
    have qb5 := cells_frame hb8 zb5
    clear za0 za1 za2 za3 za4 za5 zb0 zb1 zb2 zb3 zb4 zb5
    have f8 := bstep f7 hb8 f7.size
    go_wp2_with fail
    refine (S12.out _ f8).mono ?_
    rintro e w9 ⟨rfl, hb9⟩
    go_wp2_with fail
    refine (awake_any _).mono ?_
    rintro e w10 ⟨rfl, hb10⟩
    have c5 := bstep HW4.out hb5 (by simp; omega)
    have c6 := bstep c5 hbq c5.size
    have c7 := bstep c6 hb7 c6.size
    have c8 := bstep c7 hb8 c7.size
    have c9 := bstep c8 hb9 c8.size
    have c10 := Lib.hid (bstep c9 hb10 c9.size)
    clear qa0 qa1 qa2 qa3 qa4 qa5 qb0 qb1 qb2 qb3 qb4 qb5 C12 C23 C13 C21 C11 S12 HS HAB f5 f6 f7 f8 c5 c6 c7 c8 c9
    have hx3 : x = -1 ∨ x = 0 ∨ x = 1 := by omega
    have hy3 : y = -1 ∨ y = 0 ∨ y = 1 := by omega
    have hz3 : z = -1 ∨ z = 0 ∨ z = 1 := by omega
    clear hneg hx1 hy1 hz1
    rcases hx3 with rfl | rfl | rfl <;> rcases hy3 with rfl | rfl | rfl <;> rcases hz3 with rfl | rfl | rfl
    all_goals first
      | (exfalso; have a1 := hl2 (by decide) (by decide); revert a1; decide)
      | (exfalso; have a1 := hl1 (by decide) (by decide); revert a1; decide)
      | (clear hl1 hl2
         go_wp2_with fail
         go_ret
         exact ⟨rfl, c10.out⟩)
end Go.Proofs.Ytnfmmgbghbaecaa
