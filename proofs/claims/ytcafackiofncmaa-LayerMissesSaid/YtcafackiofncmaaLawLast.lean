/-
  LayerLast, walked.
-/
import Derived.Test.YtcafackiofncmaaLawEmpty
import Derived.Test.YtcafackiofncmaaDiffP
set_option linter.unusedVariables false
set_option linter.unusedSimpArgs false
namespace Go.Proofs.Ytcafackiofncmaa
open Go.RowKit Go.Sort

theorem over_pairs5 (t u : T) (h : u.kind = 5) : (T.over t u).pairs = overR t.pairs u.pairs := by
  obtain ⟨k, b, n, s, l, m⟩ := u
  obtain rfl : k = 5 := h
  rw [over_map, pairs5, pairs5]
theorem over_get {t u : T} (ht : t.parts = 0) (hu : u.parts = 0) (ht5 : t.kind = 5) (hu5 : u.kind = 5) (key : ByteArray) : (T.over t u).get key = overAt (t.get key) (u.get key) := by
  rw [T.get_find, over_pairs5 t u hu5]
  exact overR_find key _ _ (map_parts hu hu5).2.1 (map_parts ht ht5).2.1

set_option maxRecDepth 100000 in
set_option maxHeartbeats 4000000 in
theorem layerLast_any {w0 : World} {R1 R2 : Nat → Prop} {t u : T} {cs ds : Array Value} (h1 : Lies w0 R1 t cs) (h2 : Lies w0 R2 u ds) (key : ByteArray) (hkey : key.size ≤ 140737488355328) (w : World) (hw : Below w0.heap.size w0 w) :
    Calls Try.prog 5 #[.agg cs, .agg ds, .string key] w fun e w' => e = .returned (.bool true) ∧ Below w.heap.size w w' := by
  have KK := Lib.hid (rKey_any key hkey)
  have K1 := Lib.hid h1
  have K2 := Lib.hid h2
  obtain ⟨k, b, n, s, la, ll, lc, ma, ml, mc, rfl⟩ := h1.six
  obtain ⟨k', b', n', s', la', ll', lc', ma', ml', mc', rfl⟩ := h2.six
  have kt : t.kind = k := lies_kind h1
  have ku : u.kind = k' := lies_kind h2
  have hw2 := (((Below.refl w.heap.size w).alloc (Nat.le_refl _) (.cells #[.int .i64 k, .bool b, .int .i64 n, .string s, .slice la ll lc, .slice ma ml mc] 25)).alloc (by simp) (.cells #[.int .i64 k', .bool b', .int .i64 n', .string s', .slice la' ll' lc', .slice ma' ml' mc'] 25))
  have g2 := bstep hw hw2 hw.size
  have hw3 := hw2.alloc (by simp; omega) (.cells #[.int .i64 k, .bool b, .int .i64 n, .string s, .slice la ll lc, .slice ma ml mc, .int .i64 k', .bool b', .int .i64 n', .string s', .slice la' ll' lc', .slice ma' ml' mc'] 25)
  have HS := Lib.hid (two_values (h1.later g2) (h2.later g2))
  have HAB := Lib.hid (fun (wr : World) hb => arg_boxes2 (w := w) (wr := wr) (N := w.heap.size + 3) (A := #[.int .i64 k, .bool b, .int .i64 n, .string s, .slice la ll lc, .slice ma ml mc]) (t1 := 25) (B := #[.int .i64 k', .bool b', .int .i64 n', .string s', .slice la' ll' lc', .slice ma' ml' mc']) (t2 := 25) (o3 := .cells #[.int .i64 k, .bool b, .int .i64 n, .string s, .slice la ll lc, .slice ma ml mc, .int .i64 k', .bool b', .int .i64 n', .string s', .slice la' ll' lc', .slice ma' ml' mc'] 25) hb (by omega))
  have HW3 := Lib.hid hw3
  clear hw2 g2 hw3 h1 h2
  have hsz : ((w.alloc (.cells #[.int .i64 k, .bool b, .int .i64 n, .string s, .slice la ll lc, .slice ma ml mc] 25)).alloc (.cells #[.int .i64 k', .bool b', .int .i64 n', .string s', .slice la' ll' lc', .slice ma' ml' mc'] 25)).heap.size = w.heap.size + 1 + 1 := by simp
  go_enter Try.func5, Try.ntmps5
  go_wp2_with fail
  have HR := right_any HS.out _ (Below.refl _ _)
  rw [hsz] at HR
  refine HR.mono ?_
  rintro e w5 ⟨rfl, hb5⟩
  have C5 := Lib.hid (bstep HW3.out hb5 (by simp; omega))
  have F5 := Lib.hid (bstep hw C5.out hw.size)
  have hb5' := hb5.mono (show w.heap.size + 3 ≤ _ by simp)
  have BA : Hid (BoxA w5 w.heap.size (.int .i64 k) (.bool b) (.int .i64 n) (.string s) (.slice la ll lc) (.slice ma ml mc)) := ⟨(HAB.out _ hb5' 0).1, (HAB.out _ hb5' 1).1, (HAB.out _ hb5' 2).1, (HAB.out _ hb5' 3).1, (HAB.out _ hb5' 4).1, (HAB.out _ hb5' 5).1⟩
  have BB : Hid (BoxA w5 (w.heap.size + 1) (.int .i64 k') (.bool b') (.int .i64 n') (.string s') (.slice la' ll' lc') (.slice ma' ml' mc')) := ⟨(HAB.out _ hb5' 0).2, (HAB.out _ hb5' 1).2, (HAB.out _ hb5' 2).2, (HAB.out _ hb5' 3).2, (HAB.out _ hb5' 4).2, (HAB.out _ hb5' 5).2⟩
  have xa0 := BA.out.1
  have xb0 := BB.out.1
  have hs5 : w.heap.size + 3 ≤ w5.heap.size := by have := hb5.size; simp at this; omega
  clear hb5 hb5' HAB HW3 HR HS hsz
  cases hg : [t, u].all T.good with
  | false =>
    go_wp2_with fail
    refine (awake3_any _).mono ?_
    rintro e w6 ⟨rfl, hb6⟩
    go_wp2_with fail
    go_ret
    exact ⟨rfl, bstep C5.out hb6 C5.out.size⟩
  | true =>
    by_cases hk : k = 5
    case neg =>
      have f1 : (k != 5) = true := by simp [hk]
      go_wp2_with fail
      refine (awake3_any _).mono ?_
      rintro e w6 ⟨rfl, hb6⟩
      go_wp2_with fail
      go_ret
      exact ⟨rfl, bstep C5.out hb6 C5.out.size⟩
    subst hk
    by_cases hk' : k' = 5
    case neg =>
      have f2 : (k' != 5) = true := by simp [hk']
      go_wp2_with fail
      refine (awake3_any _).mono ?_
      rintro e w6 ⟨rfl, hb6⟩
      go_wp2_with fail
      go_ret
      exact ⟨rfl, bstep C5.out hb6 C5.out.size⟩
    subst hk'
    go_wp2_with fail
    refine (KK.out _).mono ?_
    rintro e w6 ⟨rfl, rfl⟩
    cases hkb : keyB key with
    | false =>
      go_wp2_with fail
      refine (awake3_any _).mono ?_
      rintro e w6 ⟨rfl, hb6⟩
      go_wp2_with fail
      go_ret
      exact ⟨rfl, bstep C5.out hb6 C5.out.size⟩
    | true =>
      have hgg : t.good = true ∧ u.good = true := by simpa using hg
      have htz : t.size ≤ 1000000 := by have := T.light_size (by have := hgg.1; unfold T.good at this; simp at this; exact this.1); omega
      have huz : u.size ≤ 1000000 := by have := T.light_size (by have := hgg.2; unfold T.good at this; simp at this; exact this.1); omega
      have OG := Lib.hid (over_get (good_parts hgg.1) (good_parts hgg.2) kt ku key)
      have HO := Lib.hid (over_any (K1.out.later F5.out) (K2.out.later F5.out) w5 (Below.refl _ _) htz huz)
      have GU := Lib.hid (tGet_any K2.out key)
      have GT := Lib.hid (tGet_any K1.out key)
      clear hg hgg htz huz hkb kt ku xa0 xb0
      obtain ⟨xa0, xa1, xa2, xa3, xa4, xa5⟩ := BA.out
      obtain ⟨xb0, xb1, xb2, xb3, xb4, xb5⟩ := BB.out
      go_wp2_with fail
      refine HO.out.mono ?_
      rintro e w6 ⟨dp, rfl, hLp, hb6⟩
      clear xa0 xa1 xa2 xa3 xa4 xa5 xb0 xb1 xb2 xb3 xb4 xb5 HO
      obtain ⟨p0, p1, p2, p3, p4, p4l, p4c, p5, p5l, p5c, rfl⟩ := hLp.six
      have hA6 := Lib.hid ((Below.refl w6.heap.size w6).alloc (Nat.le_refl _) (.cells #[.int .i64 p0, .bool p1, .int .i64 p2, .string p3, .slice p4 p4l p4c, .slice p5 p5l p5c] 25))
      have BP : Hid (BoxA (w6.alloc (.cells #[.int .i64 p0, .bool p1, .int .i64 p2, .string p3, .slice p4 p4l p4c, .slice p5 p5l p5c] 25)) w6.heap.size (.int .i64 p0) (.bool p1) (.int .i64 p2) (.string p3) (.slice p4 p4l p4c) (.slice p5 p5l p5c)) := BoxA.new _ _ _ _ _ _ _ _
      have hV6 := Lib.hid (bstep hb6 hA6.out hb6.size)
      have HLP := Lib.hid (hLp.later hA6.out)
      obtain ⟨xb0, xb1, xb2, xb3, xb4, xb5⟩ := BB.out.later hV6.out
      have hF6 := Lib.hid (bstep F5.out hV6.out F5.out.size)
      clear hLp hb6 hA6
      go_wp2_with fail
      generalize hv6 : w6.alloc (.cells #[.int .i64 p0, .bool p1, .int .i64 p2, .string p3, .slice p4 p4l p4c, .slice p5 p5l p5c] 25) = v6 at *
      clear xb0 xb1 xb2 xb3 xb4 xb5
      have GV := tGet_any HLP.out key
      rw [OG.out] at GV
      -- what stands under the key in the upper one
      cases hx : u.get key with
      | none =>
        have GU2 := GU.out
        rw [hx] at GU2 GV
        have GV2 := Lib.hid GV
        clear GV GU
        refine (GU2 _ hF6.out).mono ?_
        rintro e w7 ⟨dg, rfl, hLg, hb7⟩
        obtain ⟨g0, g1, g2, g3, g4, g4l, g4c, g5, g5l, g5c, rfl⟩ := hLg.six
        have hA7 := Lib.hid ((Below.refl w7.heap.size w7).alloc (Nat.le_refl _) (.cells #[.int .i64 g0, .bool g1, .int .i64 g2, .string g3, .slice g4 g4l g4c, .slice g5 g5l g5c] 25))
        have hX7 := Lib.hid (bstep hb7 hA7.out hb7.size)
        obtain ⟨xp0, xp1, xp2, xp3, xp4, xp5⟩ := BP.out.later hX7.out
        clear hLg hb7 hA7 GU2
        go_wp2_with fail
        clear xp0 xp1 xp2 xp3 xp4 xp5
        generalize hv7 : w7.alloc (.cells #[.int .i64 g0, .bool g1, .int .i64 g2, .string g3, .slice g4 g4l g4c, .slice g5 g5l g5c] 25) = v7 at *
        refine (GV2.out _ hX7.out).mono ?_
        rintro e w8 ⟨dh, rfl, hLh, hb8⟩
        obtain ⟨h0, h1, h2, h3, h4, h4l, h4c, h5, h5l, h5c, rfl⟩ := hLh.six
        have hA8 := Lib.hid ((Below.refl w8.heap.size w8).alloc (Nat.le_refl _) (.cells #[.int .i64 h0, .bool h1, .int .i64 h2, .string h3, .slice h4 h4l h4c, .slice h5 h5l h5c] 25))
        have BH : Hid (BoxA (w8.alloc (.cells #[.int .i64 h0, .bool h1, .int .i64 h2, .string h3, .slice h4 h4l h4c, .slice h5 h5l h5c] 25)) w8.heap.size (.int .i64 h0) (.bool h1) (.int .i64 h2) (.string h3) (.slice h4 h4l h4c) (.slice h5 h5l h5c)) := BoxA.new _ _ _ _ _ _ _ _
        have HLH := Lib.hid (hLh.later hA8.out)
        have hX8 := Lib.hid (bstep hX7.out (bstep hb8 hA8.out hb8.size) hX7.out.size)
        have hY8 := Lib.hid (bstep hV6.out hX8.out hV6.out.size)
        obtain ⟨xa0, xa1, xa2, xa3, xa4, xa5⟩ := BA.out.later hY8.out
        clear hLh hb8 hA8
        go_wp2_with fail
        clear xa0 xa1 xa2 xa3 xa4 xa5
        generalize hv8 : w8.alloc (.cells #[.int .i64 h0, .bool h1, .int .i64 h2, .string h3, .slice h4 h4l h4c, .slice h5 h5l h5c] 25) = v8 at *
        refine (GT.out _ (bstep F5.out hY8.out F5.out.size)).mono ?_
        rintro e w9 ⟨di, rfl, hLi, hb9⟩
        obtain ⟨i0, i1, i2, i3, i4, i4l, i4c, i5, i5l, i5c, rfl⟩ := hLi.six
        have hA9 := Lib.hid ((Below.refl w9.heap.size w9).alloc (Nat.le_refl _) (.cells #[.int .i64 i0, .bool i1, .int .i64 i2, .string i3, .slice i4 i4l i4c, .slice i5 i5l i5c] 25))
        have BI : Hid (BoxA (w9.alloc (.cells #[.int .i64 i0, .bool i1, .int .i64 i2, .string i3, .slice i4 i4l i4c, .slice i5 i5l i5c] 25)) w9.heap.size (.int .i64 i0) (.bool i1) (.int .i64 i2) (.string i3) (.slice i4 i4l i4c) (.slice i5 i5l i5c)) := BoxA.new _ _ _ _ _ _ _ _
        have HLI := Lib.hid (hLi.later hA9.out)
        have hX9 := Lib.hid (bstep hb9 hA9.out hb9.size)
        have hY9 := Lib.hid (bstep hY8.out hX9.out hY8.out.size)
        clear hLi hb9 hA9
        go_wp2_with fail
        generalize hv9 : w9.alloc (.cells #[.int .i64 i0, .bool i1, .int .i64 i2, .string i3, .slice i4 i4l i4c, .slice i5 i5l i5c] 25) = v9 at *
        refine (awake3_any _).mono ?_
        rintro e w10 ⟨rfl, hb10⟩
        obtain ⟨xh0, xh1, xh2, xh3, xh4, xh5⟩ := BH.out.later (bstep hX9.out hb10 hX9.out.size)
        obtain ⟨xi0, xi1, xi2, xi3, xi4, xi5⟩ := BI.out.later hb10
        have RS := rSame_any (HLH.out.later hX9.out) HLI.out w10 hb10
        have eo : overAt (t.get key) none = t.get key := rfl
        rw [eo] at RS
        rw [T.same_self] at RS
        rw [eo]
        go_wp2_with fail
        refine RS.mono ?_
        rintro e w11 ⟨rfl, hb11⟩
        go_wp2_with fail
        go_ret
        exact ⟨rfl, bstep C5.out (bstep hY9.out (bstep hb10 hb11 hb10.size) hY9.out.size) C5.out.size⟩
      | some x =>
        by_cases hk0 : x.kind = 0
        case pos =>
          have GU2 := GU.out
          rw [hx] at GU2 GV
          rw [overAt_zero (t.get key) hk0] at GV
          have GV2 := Lib.hid GV
          clear GV GU
          refine (GU2 _ hF6.out).mono ?_
          rintro e w7 ⟨dg, rfl, hLg, hb7⟩
          obtain ⟨g0, g1, g2, g3, g4, g4l, g4c, g5, g5l, g5c, rfl⟩ := hLg.six
          have kg : x.kind = g0 := lies_kind (show Lies _ _ x _ from hLg)
          obtain rfl : g0 = 0 := kg.symm.trans hk0
          have hA7 := Lib.hid ((Below.refl w7.heap.size w7).alloc (Nat.le_refl _) (.cells #[.int .i64 0, .bool g1, .int .i64 g2, .string g3, .slice g4 g4l g4c, .slice g5 g5l g5c] 25))
          have BG : Hid (BoxA (w7.alloc (.cells #[.int .i64 0, .bool g1, .int .i64 g2, .string g3, .slice g4 g4l g4c, .slice g5 g5l g5c] 25)) w7.heap.size (.int .i64 0) (.bool g1) (.int .i64 g2) (.string g3) (.slice g4 g4l g4c) (.slice g5 g5l g5c)) := BoxA.new _ _ _ _ _ _ _ _
          have HLG : Hid (Lies _ _ x _) := hLg.later hA7.out
          have hX7 := Lib.hid (bstep hb7 hA7.out hb7.size)
          obtain ⟨xp0, xp1, xp2, xp3, xp4, xp5⟩ := BP.out.later hX7.out
          clear hLg hb7 hA7 GU2
          go_wp2_with fail
          clear xp0 xp1 xp2 xp3 xp4 xp5
          generalize hv7 : w7.alloc (.cells #[.int .i64 0, .bool g1, .int .i64 g2, .string g3, .slice g4 g4l g4c, .slice g5 g5l g5c] 25) = v7 at *
          refine (GV2.out _ hX7.out).mono ?_
          rintro e w8 ⟨dh, rfl, hLh, hb8⟩
          obtain ⟨h0, h1, h2, h3, h4, h4l, h4c, h5, h5l, h5c, rfl⟩ := hLh.six
          have hA8 := Lib.hid ((Below.refl w8.heap.size w8).alloc (Nat.le_refl _) (.cells #[.int .i64 h0, .bool h1, .int .i64 h2, .string h3, .slice h4 h4l h4c, .slice h5 h5l h5c] 25))
          have BH : Hid (BoxA (w8.alloc (.cells #[.int .i64 h0, .bool h1, .int .i64 h2, .string h3, .slice h4 h4l h4c, .slice h5 h5l h5c] 25)) w8.heap.size (.int .i64 h0) (.bool h1) (.int .i64 h2) (.string h3) (.slice h4 h4l h4c) (.slice h5 h5l h5c)) := BoxA.new _ _ _ _ _ _ _ _
          have HLH := Lib.hid (hLh.later hA8.out)
          have hZ8 := Lib.hid (bstep hb8 hA8.out hb8.size)
          have hX8 := Lib.hid (bstep hX7.out hZ8.out hX7.out.size)
          have hY8 := Lib.hid (bstep hV6.out hX8.out hV6.out.size)
          obtain ⟨xa0, xa1, xa2, xa3, xa4, xa5⟩ := BA.out.later hY8.out
          clear hLh hb8 hA8
          go_wp2_with fail
          clear xa0 xa1 xa2 xa3 xa4 xa5
          generalize hv8 : w8.alloc (.cells #[.int .i64 h0, .bool h1, .int .i64 h2, .string h3, .slice h4 h4l h4c, .slice h5 h5l h5c] 25) = v8 at *
          refine (GT.out _ (bstep F5.out hY8.out F5.out.size)).mono ?_
          rintro e w9 ⟨di, rfl, hLi, hb9⟩
          obtain ⟨i0, i1, i2, i3, i4, i4l, i4c, i5, i5l, i5c, rfl⟩ := hLi.six
          have hA9 := Lib.hid ((Below.refl w9.heap.size w9).alloc (Nat.le_refl _) (.cells #[.int .i64 i0, .bool i1, .int .i64 i2, .string i3, .slice i4 i4l i4c, .slice i5 i5l i5c] 25))
          have hX9 := Lib.hid (bstep hb9 hA9.out hb9.size)
          have hY9 := Lib.hid (bstep hY8.out hX9.out hY8.out.size)
          have hG9 := Lib.hid (bstep hZ8.out hX9.out hZ8.out.size)
          obtain ⟨xg0, xg1, xg2, xg3, xg4, xg5⟩ := BG.out.later hG9.out
          clear hLi hb9 hA9
          go_wp2_with fail
          generalize hv9 : w9.alloc (.cells #[.int .i64 i0, .bool i1, .int .i64 i2, .string i3, .slice i4 i4l i4c, .slice i5 i5l i5c] 25) = v9 at *
          refine (awake3_any _).mono ?_
          rintro e w10 ⟨rfl, hb10⟩
          go_wp2_with fail
          go_ret
          exact ⟨rfl, bstep C5.out (bstep hY9.out hb10 hY9.out.size) C5.out.size⟩
        case neg =>
          have GU2 := GU.out
          rw [hx] at GU2 GV
          rw [overAt_some (t.get key) hk0] at GV
          have GV2 := Lib.hid GV
          clear GV GU
          refine (GU2 _ hF6.out).mono ?_
          rintro e w7 ⟨dg, rfl, hLg, hb7⟩
          obtain ⟨g0, g1, g2, g3, g4, g4l, g4c, g5, g5l, g5c, rfl⟩ := hLg.six
          have kg : x.kind = g0 := lies_kind (show Lies _ _ x _ from hLg)
          have f3 : (g0 == 0) = false := by rw [← kg]; simpa using hk0
          have hA7 := Lib.hid ((Below.refl w7.heap.size w7).alloc (Nat.le_refl _) (.cells #[.int .i64 g0, .bool g1, .int .i64 g2, .string g3, .slice g4 g4l g4c, .slice g5 g5l g5c] 25))
          have BG : Hid (BoxA (w7.alloc (.cells #[.int .i64 g0, .bool g1, .int .i64 g2, .string g3, .slice g4 g4l g4c, .slice g5 g5l g5c] 25)) w7.heap.size (.int .i64 g0) (.bool g1) (.int .i64 g2) (.string g3) (.slice g4 g4l g4c) (.slice g5 g5l g5c)) := BoxA.new _ _ _ _ _ _ _ _
          have HLG : Hid (Lies _ _ x _) := hLg.later hA7.out
          have hX7 := Lib.hid (bstep hb7 hA7.out hb7.size)
          obtain ⟨xp0, xp1, xp2, xp3, xp4, xp5⟩ := BP.out.later hX7.out
          clear hLg hb7 hA7 GU2
          go_wp2_with fail
          clear xp0 xp1 xp2 xp3 xp4 xp5
          generalize hv7 : w7.alloc (.cells #[.int .i64 g0, .bool g1, .int .i64 g2, .string g3, .slice g4 g4l g4c, .slice g5 g5l g5c] 25) = v7 at *
          refine (GV2.out _ hX7.out).mono ?_
          rintro e w8 ⟨dh, rfl, hLh, hb8⟩
          obtain ⟨h0, h1, h2, h3, h4, h4l, h4c, h5, h5l, h5c, rfl⟩ := hLh.six
          have hA8 := Lib.hid ((Below.refl w8.heap.size w8).alloc (Nat.le_refl _) (.cells #[.int .i64 h0, .bool h1, .int .i64 h2, .string h3, .slice h4 h4l h4c, .slice h5 h5l h5c] 25))
          have BH : Hid (BoxA (w8.alloc (.cells #[.int .i64 h0, .bool h1, .int .i64 h2, .string h3, .slice h4 h4l h4c, .slice h5 h5l h5c] 25)) w8.heap.size (.int .i64 h0) (.bool h1) (.int .i64 h2) (.string h3) (.slice h4 h4l h4c) (.slice h5 h5l h5c)) := BoxA.new _ _ _ _ _ _ _ _
          have HLH := Lib.hid (hLh.later hA8.out)
          have hZ8 := Lib.hid (bstep hb8 hA8.out hb8.size)
          have hX8 := Lib.hid (bstep hX7.out hZ8.out hX7.out.size)
          have hY8 := Lib.hid (bstep hV6.out hX8.out hV6.out.size)
          obtain ⟨xa0, xa1, xa2, xa3, xa4, xa5⟩ := BA.out.later hY8.out
          clear hLh hb8 hA8
          go_wp2_with fail
          clear xa0 xa1 xa2 xa3 xa4 xa5
          generalize hv8 : w8.alloc (.cells #[.int .i64 h0, .bool h1, .int .i64 h2, .string h3, .slice h4 h4l h4c, .slice h5 h5l h5c] 25) = v8 at *
          refine (GT.out _ (bstep F5.out hY8.out F5.out.size)).mono ?_
          rintro e w9 ⟨di, rfl, hLi, hb9⟩
          obtain ⟨i0, i1, i2, i3, i4, i4l, i4c, i5, i5l, i5c, rfl⟩ := hLi.six
          have hA9 := Lib.hid ((Below.refl w9.heap.size w9).alloc (Nat.le_refl _) (.cells #[.int .i64 i0, .bool i1, .int .i64 i2, .string i3, .slice i4 i4l i4c, .slice i5 i5l i5c] 25))
          have hX9 := Lib.hid (bstep hb9 hA9.out hb9.size)
          have hY9 := Lib.hid (bstep hY8.out hX9.out hY8.out.size)
          have hG9 := Lib.hid (bstep hZ8.out hX9.out hZ8.out.size)
          obtain ⟨xg0, xg1, xg2, xg3, xg4, xg5⟩ := BG.out.later hG9.out
          clear hLi hb9 hA9
          have kh : x.kind = h0 := (over_kind ((t.get key).getD T.nil) x).symm.trans (lies_kind (show Lies _ _ (T.over ((t.get key).getD T.nil) x) _ from HLH.out))
          by_cases h5 : x.kind = 5
          · obtain rfl : h0 = 5 := kh.symm.trans h5
            have f4 : (g0 == 5) = true := by rw [← kg]; simpa using h5
            clear kg kh h5 hk0
            go_wp2_with fail
            clear xg0 xg1 xg2 xg3 xg4 xg5
            generalize hv9 : w9.alloc (.cells #[.int .i64 i0, .bool i1, .int .i64 i2, .string i3, .slice i4 i4l i4c, .slice i5 i5l i5c] 25) = v9 at *
            refine (awake3_any _).mono ?_
            rintro e w10 ⟨rfl, hb10⟩
            obtain ⟨xh0, xh1, xh2, xh3, xh4, xh5⟩ := BH.out.later (bstep hX9.out hb10 hX9.out.size)
            go_wp2_with fail
            go_ret
            exact ⟨rfl, bstep C5.out (bstep hY9.out hb10 hY9.out.size) C5.out.size⟩
          · have f4 : (g0 == 5) = false := by rw [← kg]; simpa using h5
            have eo := Lib.hid (over_leaf (u := (t.get key).getD T.nil) h5)
            clear kg kh h5 hk0
            go_wp2_with fail
            clear xg0 xg1 xg2 xg3 xg4 xg5
            generalize hv9 : w9.alloc (.cells #[.int .i64 i0, .bool i1, .int .i64 i2, .string i3, .slice i4 i4l i4c, .slice i5 i5l i5c] 25) = v9 at *
            refine (awake3_any _).mono ?_
            rintro e w10 ⟨rfl, hb10⟩
            obtain ⟨xh0, xh1, xh2, xh3, xh4, xh5⟩ := BH.out.later (bstep hX9.out hb10 hX9.out.size)
            obtain ⟨xg0, xg1, xg2, xg3, xg4, xg5⟩ := BG.out.later (bstep hG9.out hb10 hG9.out.size)
            have RS := rSame_any (HLG.out.later hG9.out) (show Lies _ _ (T.over ((t.get key).getD T.nil) x) _ from HLH.out.later hX9.out) w10 hb10
            rw [eo.out, T.same_self] at RS
            go_wp2_with fail
            refine RS.mono ?_
            rintro e w11 ⟨rfl, hb11⟩
            go_wp2_with fail
            go_ret
            exact ⟨rfl, bstep C5.out (bstep hY9.out (bstep hb10 hb11 hb10.size) hY9.out.size) C5.out.size⟩

end Go.Proofs.Ytcafackiofncmaa
