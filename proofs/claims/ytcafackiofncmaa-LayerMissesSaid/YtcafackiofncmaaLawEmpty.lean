/-
  LayerEmpty, walked.
-/
import Derived.Test.YtcafackiofncmaaAwake3
import Derived.Test.YtcafackiofncmaaRSame
import Derived.Test.YtcafackiofncmaaRight
import Derived.Test.YtcafackiofncmaaGood
import Derived.Test.YtcafackiofncmaaLawCompares
import Derived.Test.YtcafackiofncmaaOverZ
import Derived.Deep.RegionHeld3
set_option linter.unusedVariables false
set_option linter.unusedSimpArgs false
namespace Go.Proofs.Ytcafackiofncmaa
open Go.RowKit Go.Sort

theorem over_leaf {t u : T} (h : t.kind ≠ 5) : T.over u t = t := by
  cases t with
  | mk k b n s l m => exact over_other u b n s l m h
theorem pairs_leaf {t : T} (h : t.kind ≠ 5) : t.pairs = [] := by
  cases t with
  | mk k b n s l m => exact if_neg h
theorem plainT_of {t : T} (h : T.over T.nil t = t) : plainT t = true := by
  unfold plainT
  rw [h, (T.ord t).refl]
  rfl
theorem pl_nil : Pl ([] : Prs) := fun p hp => absurd hp (by simp)
theorem over_any_plain {t : T} (u : T) (h : t.kind ≠ 5) : plainT (T.over t u) = true :=
  plainT_of (over_plain u t (by rw [pairs_leaf h]; exact pl_nil))
theorem over_leaf_map {t : T} (u : T) (h : t.kind ≠ 5) : T.over t u = [u].foldl T.over T.none5 := over_pairs u (by rw [pairs_leaf h]; rfl)

/-- One value in a new block. -/
theorem one_value {w1 : World} {R1 : Nat → Prop} {t : T} {k : Int} {b : Bool} {n : Int} {s : ByteArray} {la : Option Addr} {ll lc : Nat} {ma : Option Addr} {ml mc : Nat}
    (h1 : Lies w1 R1 t #[.int .i64 k, .bool b, .int .i64 n, .string s, .slice la ll lc, .slice ma ml mc]) :
    SliceV (w1.alloc (.cells #[.int .i64 k, .bool b, .int .i64 n, .string s, .slice la ll lc, .slice ma ml mc] 25)) (fun _ => True) [t] (some ⟨w1.heap.size, 0, none⟩) 1
      (fun i => #[.int .i64 k, .bool b, .int .i64 n, .string s, .slice la ll lc, .slice ma ml mc]) := by
  have hb := Below.alloc (Below.refl w1.heap.size w1) (Nat.le_refl _) (.cells #[.int .i64 k, .bool b, .int .i64 n, .string s, .slice la ll lc, .slice ma ml mc] 25)
  refine ⟨⟨Nat.le_refl 1, (by decide : 1 * 88 ≤ 140737488355328), by simp, fun _ => ⟨_, _, rfl, trivial⟩, by omega⟩, fun i hi bl ol e => ?_, fun i hi => ?_⟩
  · simp only [Option.some.injEq, Addr.mk.injEq, and_true] at e
    obtain ⟨rfl, rfl⟩ := e
    obtain rfl : i = 0 := by simpa using hi
    intro j hj
    have hj6 : j < 6 := hj
    rw [Nat.zero_add, World.cell?_alloc_new]
    rcases (by omega : j = 0 ∨ j = 1 ∨ j = 2 ∨ j = 3 ∨ j = 4 ∨ j = 5) with rfl | rfl | rfl | rfl | rfl | rfl <;> rfl
  · obtain rfl : i = 0 := by simpa using hi
    exact (h1.later hb).weaken fun _ _ => trivial

set_option maxRecDepth 100000 in
set_option maxHeartbeats 4000000 in
theorem layerEmpty_any {w0 : World} {R1 R2 : Nat → Prop} {t u : T} {cs ds : Array Value} (h1 : Lies w0 R1 t cs) (h2 : Lies w0 R2 u ds) (w : World) (hw : Below w0.heap.size w0 w) :
    Calls Try.prog 8 #[.agg cs, .agg ds] w fun e w' => e = .returned (.bool true) ∧ Below w.heap.size w w' := by
  have K1 := Lib.hid h1
  have K2 := Lib.hid h2
  obtain ⟨k, b, n, s, la, ll, lc, ma, ml, mc, rfl⟩ := h1.six
  obtain ⟨k', b', n', s', la', ll', lc', ma', ml', mc', rfl⟩ := h2.six
  have kt : t.kind = k := lies_kind h1
  have ku : u.kind = k' := lies_kind h2
  have hw2 := (((Below.refl w.heap.size w).alloc (Nat.le_refl _) (.cells #[.int .i64 k, .bool b, .int .i64 n, .string s, .slice la ll lc, .slice ma ml mc] 25)).alloc (by simp) (.cells #[.int .i64 k', .bool b', .int .i64 n', .string s', .slice la' ll' lc', .slice ma' ml' mc'] 25))
  have g2 := bstep hw hw2 hw.size
  have hw3 := hw2.alloc (by simp; omega) (.cells #[.int .i64 k, .bool b, .int .i64 n, .string s, .slice la ll lc, .slice ma ml mc, .int .i64 k', .bool b', .int .i64 n', .string s', .slice la' ll' lc', .slice ma' ml' mc'] 25)
  have HS := Lib.hid (two_values (h1.later g2) (h2.later g2))
  have HAB := Lib.hid (fun (wr : World) hb => arg_boxes2 (w := w) (wr := wr) (N := w.heap.size + 3) (A := #[.int .i64 k, .bool b, .int .i64 n, .string s, .slice la ll lc, .slice ma ml mc]) (t1 := 25) (B := #[.int .i64 k', .bool b', .int .i64 n', .string s', .slice la' ll' lc', .slice ma' ml' mc']) (t2 := 25) (o3 := .cells #[.int .i64 k, .bool b, .int .i64 n, .string s, .slice la ll lc, .slice ma ml mc, .int .i64 k', .bool b', .int .i64 n', .string s', .slice la' ll' lc', .slice ma' ml' mc'] 25) hb (by omega))
  have HW3 := Lib.hid hw3
  clear hw2 g2 hw3 h1 h2
  have hsz : ((w.alloc (.cells #[.int .i64 k, .bool b, .int .i64 n, .string s, .slice la ll lc, .slice ma ml mc] 25)).alloc (.cells #[.int .i64 k', .bool b', .int .i64 n', .string s', .slice la' ll' lc', .slice ma' ml' mc'] 25)).heap.size = w.heap.size + 1 + 1 := by simp
  go_enter Try.func8, Try.ntmps8
  go_wp2_with fail
  have HR := right_any HS.out _ (Below.refl _ _)
  rw [hsz] at HR
  refine HR.mono ?_
  rintro e w5 ⟨rfl, hb5⟩
  have C5 := Lib.hid (bstep HW3.out hb5 (by simp; omega))
  have F5 := Lib.hid (bstep hw C5.out hw.size)
  have hb5' := hb5.mono (show w.heap.size + 3 ≤ _ by simp)
  have X := Lib.hid (fun j => HAB.out _ hb5' j)
  have xa0 : w5.cell? ⟨w.heap.size, 0, none⟩ = some (.int .i64 k) := (X.out 0).1
  have xb0 : w5.cell? ⟨w.heap.size + 1, 0, none⟩ = some (.int .i64 k') := (X.out 0).2
  have hs5 := hb5.size
  simp only [World.size_alloc] at hs5
  clear hb5 hb5'
  have done : ∀ (ok : Prop), True := fun _ => trivial
  cases hg : [t, u].all T.good with
  | false =>
    go_wp2_with fail
    refine (awake3_any _).mono ?_
    rintro e w6 ⟨rfl, hb6⟩
    go_wp2_with fail
    go_ret
    exact ⟨rfl, bstep C5.out hb6 C5.out.size⟩
  | true =>
    by_cases hk : k = 5
    · have f1 : (k == 5) = true := by simp [hk]
      go_wp2_with fail
      refine (awake3_any _).mono ?_
      rintro e w6 ⟨rfl, hb6⟩
      go_wp2_with fail
      go_ret
      exact ⟨rfl, bstep C5.out hb6 C5.out.size⟩
    have f1 : (k == 5) = false := by simp [hk]
    by_cases hk' : k' = 5
    · have f2 : (k' != 5) = false := by simp [hk']
      have htk : t.kind ≠ 5 := by rw [kt]; exact hk
      have E1 := Lib.hid (over_leaf (u := u) htk)
      have E2 := Lib.hid (over_leaf_map u htk)
      have E3 := Lib.hid (over_any_plain u htk)
      have htg : t.size ≤ 6000 := by simp at hg; exact T.light_size (by have := hg.1; unfold T.good at this; simp at this; exact this.1)
      have hug : u.size ≤ 6000 := by simp at hg; exact T.light_size (by have := hg.2; unfold T.good at this; simp at this; exact this.1)
      have hvz : (T.over t u).size ≤ 1000000 := by have := over_sz u t; omega
      have SK : Hid (∀ wx : World, (∀ b, b < w5.heap.size → wx.heap[b]? = w5.heap[b]?) → wx.cell? ⟨w.heap.size, 0, none⟩ = some (.int .i64 k) ∧ wx.cell? ⟨w.heap.size, 1, none⟩ = some (.bool b) ∧ wx.cell? ⟨w.heap.size, 2, none⟩ = some (.int .i64 n) ∧ wx.cell? ⟨w.heap.size, 3, none⟩ = some (.string s) ∧ wx.cell? ⟨w.heap.size, 4, none⟩ = some (.slice la ll lc) ∧ wx.cell? ⟨w.heap.size, 5, none⟩ = some (.slice ma ml mc) ∧ wx.cell? ⟨w.heap.size + 1, 0, none⟩ = some (.int .i64 k') ∧ wx.cell? ⟨w.heap.size + 1, 1, none⟩ = some (.bool b') ∧ wx.cell? ⟨w.heap.size + 1, 2, none⟩ = some (.int .i64 n') ∧ wx.cell? ⟨w.heap.size + 1, 3, none⟩ = some (.string s') ∧ wx.cell? ⟨w.heap.size + 1, 4, none⟩ = some (.slice la' ll' lc') ∧ wx.cell? ⟨w.heap.size + 1, 5, none⟩ = some (.slice ma' ml' mc')) := fun wx hx => by
        have e0 : ∀ j', wx.cell? ⟨w.heap.size, j', none⟩ = _ := fun j' => (World.cell?_of_block (hx w.heap.size (by omega))).trans (X.out j').1
        have e1 : ∀ j', wx.cell? ⟨w.heap.size + 1, j', none⟩ = _ := fun j' => (World.cell?_of_block (hx (w.heap.size + 1) (by omega))).trans (X.out j').2
        exact ⟨e0 0, e0 1, e0 2, e0 3, e0 4, e0 5, e1 0, e1 1, e1 2, e1 3, e1 4, e1 5⟩
      have T5 := Lib.hid (K1.out.later F5.out)
      have U5 := Lib.hid (K2.out.later F5.out)
      have SM := Lib.hid (T.same_self t)
      have SM2 := Lib.hid (T.same_self ([u].foldl T.over T.none5))
      go_wp2_with fail
      clear kt ku htk xa0 xb0 f1 f2 hk hk' hg
      go_region_held3 (fun wx : World => wx.cell? ⟨w.heap.size, 0, none⟩ = some (.int .i64 k) ∧ wx.cell? ⟨w.heap.size, 1, none⟩ = some (.bool b) ∧ wx.cell? ⟨w.heap.size, 2, none⟩ = some (.int .i64 n) ∧ wx.cell? ⟨w.heap.size, 3, none⟩ = some (.string s) ∧ wx.cell? ⟨w.heap.size, 4, none⟩ = some (.slice la ll lc) ∧ wx.cell? ⟨w.heap.size, 5, none⟩ = some (.slice ma ml mc) ∧ wx.cell? ⟨w.heap.size + 1, 0, none⟩ = some (.int .i64 k') ∧ wx.cell? ⟨w.heap.size + 1, 1, none⟩ = some (.bool b') ∧ wx.cell? ⟨w.heap.size + 1, 2, none⟩ = some (.int .i64 n') ∧ wx.cell? ⟨w.heap.size + 1, 3, none⟩ = some (.string s') ∧ wx.cell? ⟨w.heap.size + 1, 4, none⟩ = some (.slice la' ll' lc') ∧ wx.cell? ⟨w.heap.size + 1, 5, none⟩ = some (.slice ma' ml' mc'))
        (first
          | with_reducible exact SK.out _ hqD
          | with_reducible exact SK.out _ hqC
          | with_reducible exact SK.out _ hqB
          | with_reducible exact SK.out _ hqA
          | with_reducible exact SK.out _ hq9a
          | with_reducible exact SK.out _ hq9
          | with_reducible exact SK.out _ hq8a
          | with_reducible exact SK.out _ hq8
          | with_reducible exact SK.out _ hq7
          | with_reducible exact SK.out _ hq6
          | exact SK.out _ (fun _ _ => rfl)
          | fail)
        (first
          | (go_at_call 10
             refine (awake3_any _).mono ?_
             rintro e w6 ⟨rfl, hb6⟩
             have hV6 : Below w5.heap.size w5 w6 := undrew hb6
             have hq6 : ∀ b, b < w5.heap.size → w6.heap[b]? = w5.heap[b]? := fun b hb => hV6.block b hb)
          | (go_at_call 16
             have hy := hVC
             refine (plain_any hLC _ (Below.refl _ _) hvz).mono ?_
             rintro e wD ⟨rfl, hbD⟩
             rw [E3.out]
             have hVD : Below w5.heap.size w5 wD := bstep hVC hbD hVC.size
             have hqD : ∀ b, b < w5.heap.size → wD.heap[b]? = w5.heap[b]? := fun b hb => hVD.block b hb)
          | (go_at_call 12
             have hy := hVB
             refine (over_any (T5.out.later hVB) (U5.out.later hVB) _ (Below.refl _ _) (by omega) (by omega)).mono ?_
             rintro e wC ⟨dC, rfl, hLC, hbC⟩
             obtain ⟨u0, u1, u2, u3, u4, u4l, u4c, u5, u5l, u5c, rfl⟩ := hLC.six
             have hVC : Below w5.heap.size w5 wC := bstep hVB hbC hVB.size
             have hqC : ∀ b, b < w5.heap.size → wC.heap[b]? = w5.heap[b]? := fun b hb => hVC.block b hb)
          | (go_at_call 11
             have hy := hVA
             refine (rSame_any (hL9.later hVX) hLA _ (Below.refl _ _)).mono ?_
             rintro e wB ⟨rfl, hbB⟩
             rw [SM2.out]
             have hVB : Below w5.heap.size w5 wB := bstep hVA hbB hVA.size
             have hqB : ∀ b, b < w5.heap.size → wB.heap[b]? = w5.heap[b]? := fun b hb => hVB.block b hb)
          | (go_at_call 14
             have hy : Below w8.heap.size w8 w9 := by with_reducible exact hb9
             have hUa := U5.out.later hV9
             refine (all_any (one_value hUa) _ (Below.refl _ _) (fun j hj => by
               obtain rfl : j = 0 := by simp at hj; omega
               show T.none5.size ≤ 1000000
               unfold T.none5; rw [T.size_mk]; simp) (fun i hi => by
               obtain rfl : i = 0 := by simp at hi; omega
               show u.size ≤ 1000000
               omega)).mono ?_
             rintro e wA ⟨dA, rfl, hLA, hbA⟩
             obtain ⟨g0, g1, g2, g3, g4, g4l, g4c, g5, g5l, g5c, rfl⟩ := hLA.six
             have hVX : Below w9.heap.size w9 wA := bunbox hbA (Nat.le_refl _) (by simp)
             have hVA : Below w5.heap.size w5 wA := bstep hV9 hVX hV9.size
             have hqA : ∀ b, b < w5.heap.size → wA.heap[b]? = w5.heap[b]? := fun b hb => hVA.block b hb)
          | (go_at_call 14
             have hy := hV9
             have hUa := U5.out.later hV8
             refine (all_any (one_value hUa) _ hb9 (fun j hj => by
               obtain rfl : j = 0 := by simp at hj; omega
               show T.none5.size ≤ 1000000
               unfold T.none5; rw [T.size_mk]; simp) (fun i hi => by
               obtain rfl : i = 0 := by simp at hi; omega
               show u.size ≤ 1000000
               omega)).mono ?_
             rintro e wA ⟨dA, rfl, hLA, hbA⟩
             obtain ⟨g0, g1, g2, g3, g4, g4l, g4c, g5, g5l, g5c, rfl⟩ := hLA.six
             have hVX : Below w9.heap.size w9 wA := hbA
             have hVA : Below w5.heap.size w5 wA := bstep hV9 hVX hV9.size
             have hqA : ∀ b, b < w5.heap.size → wA.heap[b]? = w5.heap[b]? := fun b hb => hVA.block b hb)
          | (go_at_call 12
             have hy := hV8
             refine (over_any (T5.out.later hV8) (U5.out.later hV8) _ (by first | with_reducible exact Below.refl _ _ | with_reducible exact bbox (Below.refl _ _) _ (Nat.le_refl _)) (by omega) (by omega)).mono ?_
             rintro e w9 ⟨d9, rfl, hL9, hb9⟩
             rw [E2.out] at hL9
             obtain ⟨j0, j1, j2, j3, j4, j4l, j4c, j5, j5l, j5c, rfl⟩ := hL9.six
             have hV9 : Below w5.heap.size w5 w9 := by first | with_reducible exact bstep hV8 hb9 hV8.size | exact bstep hV8 (bunbox hb9 (Nat.le_refl _) (by simp)) hV8.size
             have hq9 : ∀ b, b < w5.heap.size → w9.heap[b]? = w5.heap[b]? := fun b hb => hV9.block b hb
             have hq9a : ∀ b, b < w5.heap.size → (w9.alloc (.cells #[.int .i64 k', .bool b', .int .i64 n', .string s', .slice la' ll' lc', .slice ma' ml' mc'] 25)).heap[b]? = w5.heap[b]? := fun b hb => (Below.heap_alloc _ _ _ (Nat.lt_of_lt_of_le hb hV9.size)).trans (hq9 b hb))
          | (go_at_call 12
             refine (over_any (U5.out.later hV6) (T5.out.later hV6) _ (Below.refl _ _) (by omega) (by omega)).mono ?_
             rintro e w7 ⟨d7, rfl, hL7, hb7⟩
             rw [E1.out] at hL7
             obtain ⟨i0, i1, i2, i3, i4, i4l, i4c, i5, i5l, i5c, rfl⟩ := hL7.six
             have hV7 : Below w5.heap.size w5 w7 := bstep hV6 hb7 hV6.size
             have hq7 : ∀ b, b < w5.heap.size → w7.heap[b]? = w5.heap[b]? := fun b hb => hV7.block b hb)
          | (go_at_call 11
             refine (rSame_any hL7 (T5.out.later hV7) _ (Below.refl _ _)).mono ?_
             rintro e w8 ⟨rfl, hb8⟩
             rw [SM.out]
             have hV8 : Below w5.heap.size w5 w8 := bstep hV7 hb8 hV7.size
             have hq8 : ∀ b, b < w5.heap.size → w8.heap[b]? = w5.heap[b]? := fun b hb => hV8.block b hb
             have hq8a : ∀ b, b < w5.heap.size → (w8.alloc (.cells #[.int .i64 k', .bool b', .int .i64 n', .string s', .slice la' ll' lc', .slice ma' ml' mc'] 25)).heap[b]? = w5.heap[b]? := fun b hb => (Below.heap_alloc _ _ _ (Nat.lt_of_lt_of_le hb hV8.size)).trans (hq8 b hb)))
      all_goals
        go_wp2_with fail
        go_ret
        exact ⟨rfl, bstep C5.out hVD C5.out.size⟩
    · have f2 : (k' != 5) = true := by simp [hk']
      go_wp2_with fail
      refine (awake3_any _).mono ?_
      rintro e w6 ⟨rfl, hb6⟩
      go_wp2_with fail
      go_ret
      exact ⟨rfl, bstep C5.out hb6 C5.out.size⟩

end Go.Proofs.Ytcafackiofncmaa
