/-
  TreePuts, walked.
-/
import Derived.Test.YtgobgjnnhgcedaaLawOrders
import Derived.Test.YtgobgjnnhgcedaaRSame
import Derived.Test.YtgobgjnnhgcedaaPut
import Derived.Test.YtgobgjnnhgcedaaDrop
import Derived.Deep.RegionHeld3
set_option linter.unusedVariables false
set_option linter.unusedSimpArgs false
namespace Go.Proofs.Ytgobgjnnhgcedaa
open Go.RowKit Go.Sort

/-- Six cells of a block. -/
def Box6 (w : World) (b : Nat) (c0 c1 c2 c3 c4 c5 : Value) : Prop :=
  w.cell? ⟨b, 0, none⟩ = some c0 ∧ w.cell? ⟨b, 1, none⟩ = some c1 ∧ w.cell? ⟨b, 2, none⟩ = some c2 ∧ w.cell? ⟨b, 3, none⟩ = some c3 ∧ w.cell? ⟨b, 4, none⟩ = some c4 ∧ w.cell? ⟨b, 5, none⟩ = some c5
theorem Box6.later {w w' : World} {b : Nat} {c0 c1 c2 c3 c4 c5 : Value} (h : Box6 w b c0 c1 c2 c3 c4 c5) (hb : Below w.heap.size w w') : Box6 w' b c0 c1 c2 c3 c4 c5 :=
  ⟨cells_frame hb h.1, cells_frame hb h.2.1, cells_frame hb h.2.2.1, cells_frame hb h.2.2.2.1, cells_frame hb h.2.2.2.2.1, cells_frame hb h.2.2.2.2.2⟩
theorem Box6.new (w : World) (c0 c1 c2 c3 c4 c5 : Value) (ty : TypeId) : Box6 (w.alloc (.cells #[c0, c1, c2, c3, c4, c5] ty)) w.heap.size c0 c1 c2 c3 c4 c5 := by
  refine ⟨?_, ?_, ?_, ?_, ?_, ?_⟩ <;> rw [World.cell?_alloc_new] <;> rfl

theorem good_size {t : T} (h : t.good = true) : t.size ≤ 4096 := by
  unfold T.good at h
  simp only [Bool.and_eq_true, decide_eq_true_eq] at h
  have h2 := h.2
  unfold T.check at h2
  by_cases hd : 16 < t.depth
  · rw [if_pos hd] at h2; omega
  · by_cases hz : 4096 < t.size
    · rw [if_neg hd, if_pos hz] at h2; omega
    · omega
theorem len_le_sum {α : Type} (f : α → Nat) : ∀ l : List α, (∀ x ∈ l, 1 ≤ f x) → l.length ≤ (l.map f).sum
  | [], _ => by simp
  | x :: r, h => by
    have h1 := h x (by simp)
    have h2 := len_le_sum f r (fun y hy => h y (by simp [hy]))
    simp only [List.length_cons, List.map_cons, List.sum_cons]; omega
theorem size_pos (t : T) : 1 ≤ t.size := by
  obtain ⟨k, b, n, s, l, m⟩ := t
  rw [T.size_mk]; omega
theorem pairs_le_size (t : T) : t.pairs.length ≤ t.size := by
  obtain ⟨k, b, n, s, l, m⟩ := t
  have := len_le_sum (fun p : ByteArray × T => p.2.size) m (fun q _ => size_pos q.2)
  rw [T.size_mk, T.pairs]
  split
  · omega
  · simp
theorem key_size {s : ByteArray} (h : keyB s = true) : s.size ≤ 256 := by
  unfold keyB at h
  simp only [Bool.and_eq_true, decide_eq_true_eq] at h
  exact h.1.2

set_option maxRecDepth 100000 in
set_option maxHeartbeats 8000000 in
theorem treePuts_any {w0 : World} {R1 R2 R3 : Nat → Prop} {t x y : T} {cs ds es : Array Value} (h1 : Lies w0 R1 t cs) (h2 : Lies w0 R2 x ds) (h3 : Lies w0 R3 y es) (key other : ByteArray) (hk : key.size ≤ 140737488355328) (ho : other.size ≤ 140737488355328) (w : World) (hw : Below w0.heap.size w0 w) :
    Calls Try.prog 8 #[.agg cs, .agg ds, .agg es, .string key, .string other] w fun e w' => e = .returned (.bool true) ∧ Below w.heap.size w w' := by
  have KK := Lib.hid (rKey_any key hk)
  have KO := Lib.hid (rKey_any other ho)
  obtain ⟨k, b, n, s, la, ll, lc, ma, ml, mc, rfl⟩ := h1.six
  obtain ⟨k', b', n', s', la', ll', lc', ma', ml', mc', rfl⟩ := h2.six
  obtain ⟨k'', b'', n'', s'', la'', ll'', lc'', ma'', ml'', mc'', rfl⟩ := h3.six
  have hw3 := ((((Below.refl w.heap.size w).alloc (Nat.le_refl _) (.cells #[.int .i64 k, .bool b, .int .i64 n, .string s, .slice la ll lc, .slice ma ml mc] 25)).alloc (by simp) (.cells #[.int .i64 k', .bool b', .int .i64 n', .string s', .slice la' ll' lc', .slice ma' ml' mc'] 25)).alloc (by simp; omega) (.cells #[.int .i64 k'', .bool b'', .int .i64 n'', .string s'', .slice la'' ll'' lc'', .slice ma'' ml'' mc''] 25))
  have g3 := bstep hw hw3 hw.size
  have hw4 := hw3.alloc (by simp; omega) (.cells #[.int .i64 k, .bool b, .int .i64 n, .string s, .slice la ll lc, .slice ma ml mc, .int .i64 k', .bool b', .int .i64 n', .string s', .slice la' ll' lc', .slice ma' ml' mc', .int .i64 k'', .bool b'', .int .i64 n'', .string s'', .slice la'' ll'' lc'', .slice ma'' ml'' mc''] 25)
  have HS := Lib.hid (three_values (h1.later g3) (h2.later g3) (h3.later g3))
  have AB := fun (wr : World) hb => arg_boxes (w := w) (wr := wr) (N := w.heap.size + 4) (A := #[.int .i64 k, .bool b, .int .i64 n, .string s, .slice la ll lc, .slice ma ml mc]) (t1 := 25) (B := #[.int .i64 k', .bool b', .int .i64 n', .string s', .slice la' ll' lc', .slice ma' ml' mc']) (t2 := 25) (C := #[.int .i64 k'', .bool b'', .int .i64 n'', .string s'', .slice la'' ll'' lc'', .slice ma'' ml'' mc'']) (t3 := 25) (o4 := .cells #[.int .i64 k, .bool b, .int .i64 n, .string s, .slice la ll lc, .slice ma ml mc, .int .i64 k', .bool b', .int .i64 n', .string s', .slice la' ll' lc', .slice ma' ml' mc', .int .i64 k'', .bool b'', .int .i64 n'', .string s'', .slice la'' ll'' lc'', .slice ma'' ml'' mc''] 25) hb (by omega)
  have HAB := Lib.hid AB
  have HW4 := Lib.hid hw4
  have H1 := Lib.hid h1
  have H2 := Lib.hid h2
  have H3 := Lib.hid h3
  clear AB hw3 g3 hw4 h1 h2 h3
  have hsz : (((w.alloc (.cells #[.int .i64 k, .bool b, .int .i64 n, .string s, .slice la ll lc, .slice ma ml mc] 25)).alloc (.cells #[.int .i64 k', .bool b', .int .i64 n', .string s', .slice la' ll' lc', .slice ma' ml' mc'] 25)).alloc (.cells #[.int .i64 k'', .bool b'', .int .i64 n'', .string s'', .slice la'' ll'' lc'', .slice ma'' ml'' mc''] 25)).heap.size = w.heap.size + 1 + 1 + 1 := by simp
  go_enter Try.func8, Try.ntmps8
  go_wp2_with fail
  have HR := right_any HS.out _ (Below.refl _ _)
  rw [hsz] at HR
  refine HR.mono ?_
  clear HR HS hsz
  rintro e w5 ⟨rfl, hb5⟩
  have hb5' := hb5.mono (show w.heap.size + 4 ≤ _ by simp)
  have c5 := Lib.hid (bstep HW4.out hb5 (by simp; omega))
  have hs5 : w.heap.size + 4 ≤ w5.heap.size := by have := hb5.size; simp at this; omega
  have f5 := Lib.hid (bstep hw c5.out hw.size)
  have BA : Hid (Box6 w5 w.heap.size (.int .i64 k) (.bool b) (.int .i64 n) (.string s) (.slice la ll lc) (.slice ma ml mc)) := ⟨(HAB.out _ hb5' 0).1, (HAB.out _ hb5' 1).1, (HAB.out _ hb5' 2).1, (HAB.out _ hb5' 3).1, (HAB.out _ hb5' 4).1, (HAB.out _ hb5' 5).1⟩
  have BB : Hid (Box6 w5 (w.heap.size + 1) (.int .i64 k') (.bool b') (.int .i64 n') (.string s') (.slice la' ll' lc') (.slice ma' ml' mc')) := ⟨(HAB.out _ hb5' 0).2.1, (HAB.out _ hb5' 1).2.1, (HAB.out _ hb5' 2).2.1, (HAB.out _ hb5' 3).2.1, (HAB.out _ hb5' 4).2.1, (HAB.out _ hb5' 5).2.1⟩
  have BC : Hid (Box6 w5 (w.heap.size + 1 + 1) (.int .i64 k'') (.bool b'') (.int .i64 n'') (.string s'') (.slice la'' ll'' lc'') (.slice ma'' ml'' mc'')) := ⟨(HAB.out _ hb5' 0).2.2, (HAB.out _ hb5' 1).2.2, (HAB.out _ hb5' 2).2.2, (HAB.out _ hb5' 3).2.2, (HAB.out _ hb5' 4).2.2, (HAB.out _ hb5' 5).2.2⟩
  clear HAB HW4 hb5 hb5'
  cases hg : [t, x, y].all T.good with
  | false =>
    go_wp2_with fail
    refine (awake_any _).mono ?_
    rintro e w6 ⟨rfl, hb6⟩
    go_wp2_with fail
    go_ret
    exact ⟨rfl, bstep c5.out hb6 c5.out.size⟩
  | true =>
    have hsz : t.pairs.length ≤ 4096 := by
      have h1 := pairs_le_size t
      have h2 : t.good = true := by simp at hg; exact hg.1
      have h3 := good_size h2
      omega
    clear hg
    have xa0 := BA.out.1
    by_cases h5 : k = 5
    case neg =>
      have f1 : (k != 5) = true := by simp [h5]
      clear h5
      go_wp2_with fail
      refine (awake_any _).mono ?_
      rintro e w6 ⟨rfl, hb6⟩
      go_wp2_with fail
      go_ret
      exact ⟨rfl, bstep c5.out hb6 c5.out.size⟩
    subst h5
    go_wp2_with fail
    refine (KK.out _).mono ?_
    rintro e w6 ⟨rfl, rfl⟩
    cases hkb : keyB key with
    | false =>
      go_wp2_with fail
      refine (awake_any _).mono ?_
      rintro e w6 ⟨rfl, hb6⟩
      go_wp2_with fail
      go_ret
      exact ⟨rfl, bstep c5.out hb6 c5.out.size⟩
    | true =>
      have hk2 := key_size hkb
      clear hkb
      go_wp2_with fail
      refine (KO.out _).mono ?_
      rintro e w6 ⟨rfl, rfl⟩
      cases hob : keyB other with
      | false =>
        go_wp2_with fail
        refine (awake_any _).mono ?_
        rintro e w6 ⟨rfl, hb6⟩
        go_wp2_with fail
        go_ret
        exact ⟨rfl, bstep c5.out hb6 c5.out.size⟩
      | true =>
        clear hob xa0
        obtain ⟨xa0, xa1, xa2, xa3, xa4, xa5⟩ := BA.out
        obtain ⟨xb0, xb1, xb2, xb3, xb4, xb5⟩ := BB.out
        have HP := Lib.hid (tPut_any H1.out H2.out key (by omega) (by omega) w5 f5.out)
        go_wp2_with fail
        refine HP.out.mono ?_
        rintro e w6 ⟨dp, rfl, hLp, hb6⟩
        clear xa0 xa1 xa2 xa3 xa4 xa5 xb0 xb1 xb2 xb3 xb4 xb5 HP
        obtain ⟨p0, p1, p2, p3, p4, p4l, p4c, p5, p5l, p5c, rfl⟩ := hLp.six
        have BP : Hid (Box6 (w6.alloc (.cells #[.int .i64 p0, .bool p1, .int .i64 p2, .string p3, .slice p4 p4l p4c, .slice p5 p5l p5c] 25)) w6.heap.size (.int .i64 p0) (.bool p1) (.int .i64 p2) (.string p3) (.slice p4 p4l p4c) (.slice p5 p5l p5c)) := Box6.new _ _ _ _ _ _ _ _
        have hV6 := Lib.hid (bbox hb6 (.cells #[.int .i64 p0, .bool p1, .int .i64 p2, .string p3, .slice p4 p4l p4c, .slice p5 p5l p5c] 25) hb6.size)
        have HLP := Lib.hid (hLp.later ((Below.refl w6.heap.size w6).alloc (Nat.le_refl _) (.cells #[.int .i64 p0, .bool p1, .int .i64 p2, .string p3, .slice p4 p4l p4c, .slice p5 p5l p5c] 25)))
        clear hLp hb6
        have hpp : (t.put key x).pairs.length ≤ 4097 := by rw [put_pairs]; have := putR_len key x t.pairs; omega
        have hpy : (t.put key y).pairs.length ≤ 4097 := by rw [put_pairs]; have := putR_len key y t.pairs; omega
        have HG := tGet_any HLP.out key
        rw [get_put] at HG
        have HG2 := Lib.hid HG
        have HQ2 := Lib.hid (tGet_any HLP.out other)
        have HQ1 := Lib.hid (tGet_any H1.out other)
        clear HG
        go_wp2_with fail
        generalize hv6 : w6.alloc (.cells #[.int .i64 p0, .bool p1, .int .i64 p2, .string p3, .slice p4 p4l p4c, .slice p5 p5l p5c] 25) = v6 at *
        refine (HG2.out _ (Below.refl _ _)).mono ?_
        rintro e w7 ⟨dg, rfl, hLg, hb7⟩
        obtain ⟨g0, g1, g2, g3, g4, g4l, g4c, g5, g5l, g5c, rfl⟩ := hLg.six
        have hV7 := Lib.hid (bstep hV6.out hb7 hV6.out.size)
        have hA7 := Lib.hid ((Below.refl w7.heap.size w7).alloc (Nat.le_refl _) (.cells #[.int .i64 g0, .bool g1, .int .i64 g2, .string g3, .slice g4 g4l g4c, .slice g5 g5l g5c] 25))
        have BG : Hid (Box6 (w7.alloc (.cells #[.int .i64 g0, .bool g1, .int .i64 g2, .string g3, .slice g4 g4l g4c, .slice g5 g5l g5c] 25)) w7.heap.size (.int .i64 g0) (.bool g1) (.int .i64 g2) (.string g3) (.slice g4 g4l g4c) (.slice g5 g5l g5c)) := Box6.new _ _ _ _ _ _ _ _
        have HLG := Lib.hid (show Lies _ _ x _ from hLg.later hA7.out)
        have hX7 := Lib.hid (bstep hV7.out hA7.out hV7.out.size)
        have hP7 := Lib.hid (bstep hb7 hA7.out hb7.size)
        obtain ⟨xa0, xa1, xa2, xa3, xa4, xa5⟩ := BA.out.later hX7.out
        clear hLg hb7 hV7 hA7
        go_wp2_with fail
        clear xa0 xa1 xa2 xa3 xa4 xa5
        generalize hv7 : w7.alloc (.cells #[.int .i64 g0, .bool g1, .int .i64 g2, .string g3, .slice g4 g4l g4c, .slice g5 g5l g5c] 25) = v7 at *
        refine (HQ1.out _ (bstep f5.out hX7.out f5.out.size)).mono ?_
        rintro e w8 ⟨da, rfl, hLa, hb8⟩
        obtain ⟨a0, a1, a2, a3, a4, a4l, a4c, a5, a5l, a5c, rfl⟩ := hLa.six
        have hA8 := Lib.hid ((Below.refl w8.heap.size w8).alloc (Nat.le_refl _) (.cells #[.int .i64 a0, .bool a1, .int .i64 a2, .string a3, .slice a4 a4l a4c, .slice a5 a5l a5c] 25))
        have BD : Hid (Box6 (w8.alloc (.cells #[.int .i64 a0, .bool a1, .int .i64 a2, .string a3, .slice a4 a4l a4c, .slice a5 a5l a5c] 25)) w8.heap.size (.int .i64 a0) (.bool a1) (.int .i64 a2) (.string a3) (.slice a4 a4l a4c) (.slice a5 a5l a5c)) := Box6.new _ _ _ _ _ _ _ _
        have HLA := Lib.hid (hLa.later hA8.out)
        have hX8 := Lib.hid (bstep hb8 hA8.out hb8.size)
        have hP8 := Lib.hid (bstep hP7.out hX8.out hP7.out.size)
        obtain ⟨xp0, xp1, xp2, xp3, xp4, xp5⟩ := BP.out.later hP8.out
        clear hLa hb8 hA8
        go_wp2_with fail
        clear xp0 xp1 xp2 xp3 xp4 xp5
        generalize hv8 : w8.alloc (.cells #[.int .i64 a0, .bool a1, .int .i64 a2, .string a3, .slice a4 a4l a4c, .slice a5 a5l a5c] 25) = v8 at *
        refine (HQ2.out _ hP8.out).mono ?_
        rintro e w9 ⟨db, rfl, hLb, hb9⟩
        obtain ⟨e0, e1, e2, e3, e4, e4l, e4c, e5, e5l, e5c, rfl⟩ := hLb.six
        have hA9 := Lib.hid ((Below.refl w9.heap.size w9).alloc (Nat.le_refl _) (.cells #[.int .i64 e0, .bool e1, .int .i64 e2, .string e3, .slice e4 e4l e4c, .slice e5 e5l e5c] 25))
        have BE : Hid (Box6 (w9.alloc (.cells #[.int .i64 e0, .bool e1, .int .i64 e2, .string e3, .slice e4 e4l e4c, .slice e5 e5l e5c] 25)) w9.heap.size (.int .i64 e0) (.bool e1) (.int .i64 e2) (.string e3) (.slice e4 e4l e4c) (.slice e5 e5l e5c)) := Box6.new _ _ _ _ _ _ _ _
        have HLB := Lib.hid (hLb.later hA9.out)
        have hX9 := Lib.hid (bstep hb9 hA9.out hb9.size)
        have hP9 := Lib.hid (bstep hP8.out hX9.out hP8.out.size)
        have HD := Lib.hid (tDrop_any HLP.out key)
        obtain ⟨xp0, xp1, xp2, xp3, xp4, xp5⟩ := BP.out.later hP9.out
        clear hLb hb9 hA9
        go_wp2_with fail
        clear xp0 xp1 xp2 xp3 xp4 xp5
        generalize hv9 : w9.alloc (.cells #[.int .i64 e0, .bool e1, .int .i64 e2, .string e3, .slice e4 e4l e4c, .slice e5 e5l e5c] 25) = v9 at *
        refine (HD.out _ hP9.out).mono ?_
        rintro e w10 ⟨dd, rfl, hLd, hb10⟩
        obtain ⟨d0, d1, d2, d3, d4, d4l, d4c, d5, d5l, d5c, rfl⟩ := hLd.six
        have HQ := tGet_any hLd key
        rw [get_drop] at HQ
        have HQ3 := Lib.hid HQ
        clear HQ hLd
        go_wp2_with fail
        refine (HQ3.out _ (Below.refl _ _)).mono ?_
        rintro e w11 ⟨dl, rfl, hLl, hb11⟩
        obtain ⟨l0, l1, l2, l3, l4, l4l, l4c, l5, l5l, l5c, rfl⟩ := hLl.six
        have hA11 := Lib.hid ((Below.refl w11.heap.size w11).alloc (Nat.le_refl _) (.cells #[.int .i64 l0, .bool l1, .int .i64 l2, .string l3, .slice l4 l4l l4c, .slice l5 l5l l5c] 25))
        have hY := bstep hb10 (bstep hb11 hA11.out hb11.size) hb10.size
        have hX11 := Lib.hid (bstep hX9.out hY hX9.out.size)
        have hP11 := Lib.hid (bstep hP9.out hY hP9.out.size)
        have hG11 := Lib.hid (bstep hX8.out hX11.out hX8.out.size)
        have hD11 := Lib.hid hX11.out
        have hE11 := Lib.hid hY
        have hZ11 := Lib.hid (bstep hX7.out hG11.out hX7.out.size)
        have RS := Lib.hid (fun w hw => rSame_any (HLG.out.later hG11.out) (H2.out.later (bstep f5.out hZ11.out f5.out.size)) w hw)
        obtain ⟨xg0, xg1, xg2, xg3, xg4, xg5⟩ := BG.out.later hG11.out
        obtain ⟨xb0, xb1, xb2, xb3, xb4, xb5⟩ := BB.out.later hZ11.out
        clear hLl hb10 hb11 hA11 hY HQ3
        rw [T.same_self] at RS
        have RD := Lib.hid (fun w hw => rSame_any (HLA.out.later hX11.out) (HLB.out.later hE11.out) w hw)
        by_cases hko : other = key
        · have f1 : (key.toList == other.toList) = true := by rw [hko]; simp
          clear hko
          go_wp2_with fail
          clear xg0 xg1 xg2 xg3 xg4 xg5 xb0 xb1 xb2 xb3 xb4 xb5
          generalize hv11 : w11.alloc (.cells #[.int .i64 l0, .bool l1, .int .i64 l2, .string l3, .slice l4 l4l l4c, .slice l5 l5l l5c] 25) = v11 at *
          refine (RS.out _ (Below.refl _ _)).mono ?_
          rintro e vz ⟨rfl, hb12⟩
          have hXz := Lib.hid (bstep hZ11.out hb12 hZ11.out.size)
          have hPz := Lib.hid (bstep hP11.out hb12 hP11.out.size)
          go_wp2_with fail
          have SK : Hid (∀ wx : World, Below vz.heap.size vz wx → wx.cell? ⟨w.heap.size, 0, none⟩ = some (.int .i64 5) ∧ wx.cell? ⟨w.heap.size, 1, none⟩ = some (.bool b) ∧ wx.cell? ⟨w.heap.size, 2, none⟩ = some (.int .i64 n) ∧ wx.cell? ⟨w.heap.size, 3, none⟩ = some (.string s) ∧ wx.cell? ⟨w.heap.size, 4, none⟩ = some (.slice la ll lc) ∧ wx.cell? ⟨w.heap.size, 5, none⟩ = some (.slice ma ml mc) ∧ wx.cell? ⟨w.heap.size + 1, 0, none⟩ = some (.int .i64 k') ∧ wx.cell? ⟨w.heap.size + 1, 1, none⟩ = some (.bool b') ∧ wx.cell? ⟨w.heap.size + 1, 2, none⟩ = some (.int .i64 n') ∧ wx.cell? ⟨w.heap.size + 1, 3, none⟩ = some (.string s') ∧ wx.cell? ⟨w.heap.size + 1, 4, none⟩ = some (.slice la' ll' lc') ∧ wx.cell? ⟨w.heap.size + 1, 5, none⟩ = some (.slice ma' ml' mc') ∧ wx.cell? ⟨w.heap.size + 1 + 1, 0, none⟩ = some (.int .i64 k'') ∧ wx.cell? ⟨w.heap.size + 1 + 1, 1, none⟩ = some (.bool b'') ∧ wx.cell? ⟨w.heap.size + 1 + 1, 2, none⟩ = some (.int .i64 n'') ∧ wx.cell? ⟨w.heap.size + 1 + 1, 3, none⟩ = some (.string s'') ∧ wx.cell? ⟨w.heap.size + 1 + 1, 4, none⟩ = some (.slice la'' ll'' lc'') ∧ wx.cell? ⟨w.heap.size + 1 + 1, 5, none⟩ = some (.slice ma'' ml'' mc'') ∧ wx.cell? ⟨w6.heap.size, 0, none⟩ = some (.int .i64 p0) ∧ wx.cell? ⟨w6.heap.size, 1, none⟩ = some (.bool p1) ∧ wx.cell? ⟨w6.heap.size, 2, none⟩ = some (.int .i64 p2) ∧ wx.cell? ⟨w6.heap.size, 3, none⟩ = some (.string p3) ∧ wx.cell? ⟨w6.heap.size, 4, none⟩ = some (.slice p4 p4l p4c) ∧ wx.cell? ⟨w6.heap.size, 5, none⟩ = some (.slice p5 p5l p5c)) := fun wx hx => by
            have hq := bstep hXz.out hx hXz.out.size
            have hr := bstep hPz.out hx hPz.out.size
            obtain ⟨xa0, xa1, xa2, xa3, xa4, xa5⟩ := BA.out.later hq
            obtain ⟨xb0, xb1, xb2, xb3, xb4, xb5⟩ := BB.out.later hq
            obtain ⟨xc0, xc1, xc2, xc3, xc4, xc5⟩ := BC.out.later hq
            obtain ⟨xp0, xp1, xp2, xp3, xp4, xp5⟩ := BP.out.later hr
            exact ⟨xa0, xa1, xa2, xa3, xa4, xa5, xb0, xb1, xb2, xb3, xb4, xb5, xc0, xc1, xc2, xc3, xc4, xc5, xp0, xp1, xp2, xp3, xp4, xp5⟩
          have FZ := Lib.hid (bstep f5.out hXz.out f5.out.size)
          have CZ := Lib.hid (bstep c5.out hXz.out c5.out.size)
          clear BA BB BC BP BG BD BE RS RD hX7 hX8 hX9 hP7 hP8 hP9 hX11 hP11 hG11 hD11 hE11 hZ11
          go_region_held3 (fun wx : World => wx.cell? ⟨w.heap.size, 0, none⟩ = some (.int .i64 5) ∧ wx.cell? ⟨w.heap.size, 1, none⟩ = some (.bool b) ∧ wx.cell? ⟨w.heap.size, 2, none⟩ = some (.int .i64 n) ∧ wx.cell? ⟨w.heap.size, 3, none⟩ = some (.string s) ∧ wx.cell? ⟨w.heap.size, 4, none⟩ = some (.slice la ll lc) ∧ wx.cell? ⟨w.heap.size, 5, none⟩ = some (.slice ma ml mc) ∧ wx.cell? ⟨w.heap.size + 1, 0, none⟩ = some (.int .i64 k') ∧ wx.cell? ⟨w.heap.size + 1, 1, none⟩ = some (.bool b') ∧ wx.cell? ⟨w.heap.size + 1, 2, none⟩ = some (.int .i64 n') ∧ wx.cell? ⟨w.heap.size + 1, 3, none⟩ = some (.string s') ∧ wx.cell? ⟨w.heap.size + 1, 4, none⟩ = some (.slice la' ll' lc') ∧ wx.cell? ⟨w.heap.size + 1, 5, none⟩ = some (.slice ma' ml' mc') ∧ wx.cell? ⟨w.heap.size + 1 + 1, 0, none⟩ = some (.int .i64 k'') ∧ wx.cell? ⟨w.heap.size + 1 + 1, 1, none⟩ = some (.bool b'') ∧ wx.cell? ⟨w.heap.size + 1 + 1, 2, none⟩ = some (.int .i64 n'') ∧ wx.cell? ⟨w.heap.size + 1 + 1, 3, none⟩ = some (.string s'') ∧ wx.cell? ⟨w.heap.size + 1 + 1, 4, none⟩ = some (.slice la'' ll'' lc'') ∧ wx.cell? ⟨w.heap.size + 1 + 1, 5, none⟩ = some (.slice ma'' ml'' mc'') ∧ wx.cell? ⟨w6.heap.size, 0, none⟩ = some (.int .i64 p0) ∧ wx.cell? ⟨w6.heap.size, 1, none⟩ = some (.bool p1) ∧ wx.cell? ⟨w6.heap.size, 2, none⟩ = some (.int .i64 p2) ∧ wx.cell? ⟨w6.heap.size, 3, none⟩ = some (.string p3) ∧ wx.cell? ⟨w6.heap.size, 4, none⟩ = some (.slice p4 p4l p4c) ∧ wx.cell? ⟨w6.heap.size, 5, none⟩ = some (.slice p5 p5l p5c))
            (first
              | with_reducible exact SK.out _ hV19.out
              | with_reducible exact SK.out _ hV18.out
              | with_reducible exact SK.out _ hV17.out
              | with_reducible exact SK.out _ hV16.out
              | with_reducible exact SK.out _ hV15.out
              | with_reducible exact SK.out _ hV14.out
              | with_reducible exact SK.out _ (Below.refl _ _).drew)
            (first
              | (go_at_call 17
                 refine (awake_any _).mono ?_
                 rintro e w14 ⟨rfl, hb14⟩
                 have hV14 := Lib.hid (show Below vz.heap.size vz w14 from undrew hb14))
              | (go_at_call 38
                 first
                 | (have hy := hV17
                    refine (tPut_any (HLP.out.later (bstep hPz.out hV17.out hPz.out.size)) (H2.out.later (bstep FZ.out hV17.out FZ.out.size)) key (by omega) (by omega) _ (Below.refl _ _)).mono ?_
                    rintro e w18 ⟨du, rfl, hLu, hb18⟩
                    rw [put_put] at hLu
                    have hV18 := Lib.hid (bstep hV17.out hb18 hV17.out.size)
                    obtain ⟨u0, u1, u2, u3, u4, u4l, u4c, u5, u5l, u5c, rfl⟩ := hLu.six)
                 | (have hy := hV15
                    refine (tPut_any hLq (H2.out.later (bstep FZ.out hV15.out FZ.out.size)) key (by omega) (by omega) _ (Below.refl _ _)).mono ?_
                    rintro e w16 ⟨dr, rfl, hLr, hb16⟩
                    rw [put_put] at hLr
                    have hV16 := Lib.hid (bstep hV15.out hb16 hV15.out.size)
                    obtain ⟨r0, r1, r2, r3, r4, r4l, r4c, r5, r5l, r5c, rfl⟩ := hLr.six)
                 | (refine (tPut_any H1.out H3.out key (by omega) (by omega) _ (bstep FZ.out hV14.out FZ.out.size)).mono ?_
                    rintro e w15 ⟨dq, rfl, hLq, hb15⟩
                    have hV15 := Lib.hid (bstep hV14.out hb15 hV14.out.size)
                    obtain ⟨q0, q1, q2, q3, q4, q4l, q4c, q5, q5l, q5c, rfl⟩ := hLq.six))
              | (go_at_call 25
                 first
                 | (have hy := hV18
                    have hs := rSame_any hLu (HLP.out.later (bstep hPz.out hV18.out hPz.out.size)) _ (Below.refl _ _)
                    rw [T.same_self] at hs
                    refine hs.mono ?_
                    clear hs
                    rintro e w19 ⟨rfl, hb19⟩
                    have hV19 := Lib.hid (bstep hV18.out hb19 hV18.out.size))
                 | (have hs := rSame_any hLr (HLP.out.later (bstep hPz.out hV16.out hPz.out.size)) _ (Below.refl _ _)
                    rw [T.same_self] at hs
                    refine hs.mono ?_
                    clear hs
                    rintro e w17 ⟨rfl, hb17⟩
                    have hV17 := Lib.hid (bstep hV16.out hb17 hV16.out.size))))
          go_wp2_with fail
          go_ret
          exact ⟨rfl, bstep CZ.out hV19.out CZ.out.size⟩
        · have f1 := str_ne (fun e => hko (Eq.symm e) : key ≠ other)
          have eo : (t.put key x).get other = t.get other := get_put_other t key other x hko
          clear hko
          rw [eo]
          rw [eo] at RD
          rw [T.same_self] at RD
          clear eo
          go_wp2_with fail
          clear xg0 xg1 xg2 xg3 xg4 xg5 xb0 xb1 xb2 xb3 xb4 xb5
          generalize hv11 : w11.alloc (.cells #[.int .i64 l0, .bool l1, .int .i64 l2, .string l3, .slice l4 l4l l4c, .slice l5 l5l l5c] 25) = v11 at *
          refine (RS.out _ (Below.refl _ _)).mono ?_
          rintro e w12 ⟨rfl, hb12⟩
          obtain ⟨xd0, xd1, xd2, xd3, xd4, xd5⟩ := BD.out.later (bstep hX11.out hb12 hX11.out.size)
          obtain ⟨xe0, xe1, xe2, xe3, xe4, xe5⟩ := BE.out.later (bstep hE11.out hb12 hE11.out.size)
          go_wp2_with fail
          refine (RD.out _ hb12).mono ?_
          rintro e vz ⟨rfl, hb13⟩
          have hb123 := bstep hb12 hb13 hb12.size
          have hXz := Lib.hid (bstep hZ11.out hb123 hZ11.out.size)
          have hPz := Lib.hid (bstep hP11.out hb123 hP11.out.size)
          clear xd0 xd1 xd2 xd3 xd4 xd5 xe0 xe1 xe2 xe3 xe4 xe5
          go_wp2_with fail
          have SK : Hid (∀ wx : World, Below vz.heap.size vz wx → wx.cell? ⟨w.heap.size, 0, none⟩ = some (.int .i64 5) ∧ wx.cell? ⟨w.heap.size, 1, none⟩ = some (.bool b) ∧ wx.cell? ⟨w.heap.size, 2, none⟩ = some (.int .i64 n) ∧ wx.cell? ⟨w.heap.size, 3, none⟩ = some (.string s) ∧ wx.cell? ⟨w.heap.size, 4, none⟩ = some (.slice la ll lc) ∧ wx.cell? ⟨w.heap.size, 5, none⟩ = some (.slice ma ml mc) ∧ wx.cell? ⟨w.heap.size + 1, 0, none⟩ = some (.int .i64 k') ∧ wx.cell? ⟨w.heap.size + 1, 1, none⟩ = some (.bool b') ∧ wx.cell? ⟨w.heap.size + 1, 2, none⟩ = some (.int .i64 n') ∧ wx.cell? ⟨w.heap.size + 1, 3, none⟩ = some (.string s') ∧ wx.cell? ⟨w.heap.size + 1, 4, none⟩ = some (.slice la' ll' lc') ∧ wx.cell? ⟨w.heap.size + 1, 5, none⟩ = some (.slice ma' ml' mc') ∧ wx.cell? ⟨w.heap.size + 1 + 1, 0, none⟩ = some (.int .i64 k'') ∧ wx.cell? ⟨w.heap.size + 1 + 1, 1, none⟩ = some (.bool b'') ∧ wx.cell? ⟨w.heap.size + 1 + 1, 2, none⟩ = some (.int .i64 n'') ∧ wx.cell? ⟨w.heap.size + 1 + 1, 3, none⟩ = some (.string s'') ∧ wx.cell? ⟨w.heap.size + 1 + 1, 4, none⟩ = some (.slice la'' ll'' lc'') ∧ wx.cell? ⟨w.heap.size + 1 + 1, 5, none⟩ = some (.slice ma'' ml'' mc'') ∧ wx.cell? ⟨w6.heap.size, 0, none⟩ = some (.int .i64 p0) ∧ wx.cell? ⟨w6.heap.size, 1, none⟩ = some (.bool p1) ∧ wx.cell? ⟨w6.heap.size, 2, none⟩ = some (.int .i64 p2) ∧ wx.cell? ⟨w6.heap.size, 3, none⟩ = some (.string p3) ∧ wx.cell? ⟨w6.heap.size, 4, none⟩ = some (.slice p4 p4l p4c) ∧ wx.cell? ⟨w6.heap.size, 5, none⟩ = some (.slice p5 p5l p5c)) := fun wx hx => by
            have hq := bstep hXz.out hx hXz.out.size
            have hr := bstep hPz.out hx hPz.out.size
            obtain ⟨xa0, xa1, xa2, xa3, xa4, xa5⟩ := BA.out.later hq
            obtain ⟨xb0, xb1, xb2, xb3, xb4, xb5⟩ := BB.out.later hq
            obtain ⟨xc0, xc1, xc2, xc3, xc4, xc5⟩ := BC.out.later hq
            obtain ⟨xp0, xp1, xp2, xp3, xp4, xp5⟩ := BP.out.later hr
            exact ⟨xa0, xa1, xa2, xa3, xa4, xa5, xb0, xb1, xb2, xb3, xb4, xb5, xc0, xc1, xc2, xc3, xc4, xc5, xp0, xp1, xp2, xp3, xp4, xp5⟩
          have FZ := Lib.hid (bstep f5.out hXz.out f5.out.size)
          have CZ := Lib.hid (bstep c5.out hXz.out c5.out.size)
          clear BA BB BC BP BG BD BE RS RD hX7 hX8 hX9 hP7 hP8 hP9 hX11 hP11 hG11 hD11 hE11 hZ11
          go_region_held3 (fun wx : World => wx.cell? ⟨w.heap.size, 0, none⟩ = some (.int .i64 5) ∧ wx.cell? ⟨w.heap.size, 1, none⟩ = some (.bool b) ∧ wx.cell? ⟨w.heap.size, 2, none⟩ = some (.int .i64 n) ∧ wx.cell? ⟨w.heap.size, 3, none⟩ = some (.string s) ∧ wx.cell? ⟨w.heap.size, 4, none⟩ = some (.slice la ll lc) ∧ wx.cell? ⟨w.heap.size, 5, none⟩ = some (.slice ma ml mc) ∧ wx.cell? ⟨w.heap.size + 1, 0, none⟩ = some (.int .i64 k') ∧ wx.cell? ⟨w.heap.size + 1, 1, none⟩ = some (.bool b') ∧ wx.cell? ⟨w.heap.size + 1, 2, none⟩ = some (.int .i64 n') ∧ wx.cell? ⟨w.heap.size + 1, 3, none⟩ = some (.string s') ∧ wx.cell? ⟨w.heap.size + 1, 4, none⟩ = some (.slice la' ll' lc') ∧ wx.cell? ⟨w.heap.size + 1, 5, none⟩ = some (.slice ma' ml' mc') ∧ wx.cell? ⟨w.heap.size + 1 + 1, 0, none⟩ = some (.int .i64 k'') ∧ wx.cell? ⟨w.heap.size + 1 + 1, 1, none⟩ = some (.bool b'') ∧ wx.cell? ⟨w.heap.size + 1 + 1, 2, none⟩ = some (.int .i64 n'') ∧ wx.cell? ⟨w.heap.size + 1 + 1, 3, none⟩ = some (.string s'') ∧ wx.cell? ⟨w.heap.size + 1 + 1, 4, none⟩ = some (.slice la'' ll'' lc'') ∧ wx.cell? ⟨w.heap.size + 1 + 1, 5, none⟩ = some (.slice ma'' ml'' mc'') ∧ wx.cell? ⟨w6.heap.size, 0, none⟩ = some (.int .i64 p0) ∧ wx.cell? ⟨w6.heap.size, 1, none⟩ = some (.bool p1) ∧ wx.cell? ⟨w6.heap.size, 2, none⟩ = some (.int .i64 p2) ∧ wx.cell? ⟨w6.heap.size, 3, none⟩ = some (.string p3) ∧ wx.cell? ⟨w6.heap.size, 4, none⟩ = some (.slice p4 p4l p4c) ∧ wx.cell? ⟨w6.heap.size, 5, none⟩ = some (.slice p5 p5l p5c))
            (first
              | with_reducible exact SK.out _ hV19.out
              | with_reducible exact SK.out _ hV18.out
              | with_reducible exact SK.out _ hV17.out
              | with_reducible exact SK.out _ hV16.out
              | with_reducible exact SK.out _ hV15.out
              | with_reducible exact SK.out _ hV14.out
              | with_reducible exact SK.out _ (Below.refl _ _).drew)
            (first
              | (go_at_call 17
                 refine (awake_any _).mono ?_
                 rintro e w14 ⟨rfl, hb14⟩
                 have hV14 := Lib.hid (show Below vz.heap.size vz w14 from undrew hb14))
              | (go_at_call 38
                 first
                 | (have hy := hV17
                    refine (tPut_any (HLP.out.later (bstep hPz.out hV17.out hPz.out.size)) (H2.out.later (bstep FZ.out hV17.out FZ.out.size)) key (by omega) (by omega) _ (Below.refl _ _)).mono ?_
                    rintro e w18 ⟨du, rfl, hLu, hb18⟩
                    rw [put_put] at hLu
                    have hV18 := Lib.hid (bstep hV17.out hb18 hV17.out.size)
                    obtain ⟨u0, u1, u2, u3, u4, u4l, u4c, u5, u5l, u5c, rfl⟩ := hLu.six)
                 | (have hy := hV15
                    refine (tPut_any hLq (H2.out.later (bstep FZ.out hV15.out FZ.out.size)) key (by omega) (by omega) _ (Below.refl _ _)).mono ?_
                    rintro e w16 ⟨dr, rfl, hLr, hb16⟩
                    rw [put_put] at hLr
                    have hV16 := Lib.hid (bstep hV15.out hb16 hV15.out.size)
                    obtain ⟨r0, r1, r2, r3, r4, r4l, r4c, r5, r5l, r5c, rfl⟩ := hLr.six)
                 | (refine (tPut_any H1.out H3.out key (by omega) (by omega) _ (bstep FZ.out hV14.out FZ.out.size)).mono ?_
                    rintro e w15 ⟨dq, rfl, hLq, hb15⟩
                    have hV15 := Lib.hid (bstep hV14.out hb15 hV14.out.size)
                    obtain ⟨q0, q1, q2, q3, q4, q4l, q4c, q5, q5l, q5c, rfl⟩ := hLq.six))
              | (go_at_call 25
                 first
                 | (have hy := hV18
                    have hs := rSame_any hLu (HLP.out.later (bstep hPz.out hV18.out hPz.out.size)) _ (Below.refl _ _)
                    rw [T.same_self] at hs
                    refine hs.mono ?_
                    clear hs
                    rintro e w19 ⟨rfl, hb19⟩
                    have hV19 := Lib.hid (bstep hV18.out hb19 hV18.out.size))
                 | (have hs := rSame_any hLr (HLP.out.later (bstep hPz.out hV16.out hPz.out.size)) _ (Below.refl _ _)
                    rw [T.same_self] at hs
                    refine hs.mono ?_
                    clear hs
                    rintro e w17 ⟨rfl, hb17⟩
                    have hV17 := Lib.hid (bstep hV16.out hb17 hV16.out.size))))
          go_wp2_with fail
          go_ret
          exact ⟨rfl, bstep CZ.out hV19.out CZ.out.size⟩

end Go.Proofs.Ytgobgjnnhgcedaa
