/-
  PathWays: the law's contract.
-/
import Derived.Test.YtnfmmgbghbaecaaPathA
import Derived.Test.YtnfmmgbghbaecaaSpecsG
import Derived.Test.YtnfmmgbghbaecaaLawCompares
set_option linter.unusedVariables false
set_option linter.unusedSimpArgs false
namespace Go.Proofs.Ytnfmmgbghbaecaa
open Go.RowKit Go.Sort

theorem SliceS.drop1 {w : World} {ks : List ByteArray} {b o : Nat} {cap : Nat} (h : SliceS w ks (some ⟨b, o, none⟩) cap) (hn : 1 ≤ ks.length) : SliceS w (ks.drop 1) (some ⟨b, o + 1, none⟩) (cap - 1) := by
  have e : (ks.drop 1).length = ks.length - 1 := by simp
  refine ⟨by have := h.le; omega, by have := h.big; omega, (fun h => by cases h), fun _ => ⟨_, _, rfl⟩, by have := h.max; omega, fun i hi b2 o2 ea => ?_, fun i hi => ?_⟩
  · simp only [Option.some.injEq, Addr.mk.injEq, and_true] at ea
    obtain ⟨rfl, rfl⟩ := ea
    have := h.cell (i + 1) (by omega) b o rfl
    rw [show o + 1 + i = o + (i + 1) by omega, this]
    simp [List.getElem_drop, Nat.add_comm]
  · have := h.sizes (i + 1) (by omega)
    simpa [List.getElem_drop, Nat.add_comm] using this

set_option maxRecDepth 100000 in
set_option maxHeartbeats 8000000 in
theorem pathWays_any {w : World} {R1 R2 : Nat → Prop} {t x : T} {cs es : Array Value} {ks : List ByteArray} {sa : Option Addr} {sc : Nat} (h1 : Lies w R1 t cs) (h2 : Lies w R2 x es) (hS : SliceS w ks sa sc) :
    Calls Try.prog 14 #[.agg cs, .agg es, .slice sa ks.length sc] w fun e w' => e = .returned (.bool true) ∧ Below w.heap.size w w' := by
  have H1 := Lib.hid h1
  have H2 := Lib.hid h2
  have HS := Lib.hid hS
  have hkle := hS.le
  have hkbig := hS.big
  obtain ⟨k, b, n, s, la, ll, lc, ma, ml, mc, rfl⟩ := h1.six
  obtain ⟨k2, b2, n2, s2, la2, ll2, lc2, ma2, ml2, mc2, rfl⟩ := h2.six
  have hb0 := ((Below.refl w.heap.size w).alloc (Nat.le_refl _) (.cells #[.int .i64 k, .bool b, .int .i64 n, .string s, .slice la ll lc, .slice ma ml mc] 25)).alloc (by simp) (.cells #[.int .i64 k2, .bool b2, .int .i64 n2, .string s2, .slice la2 ll2 lc2, .slice ma2 ml2 mc2] 25)
  have hsz : ((w.alloc (.cells #[.int .i64 k, .bool b, .int .i64 n, .string s, .slice la ll lc, .slice ma ml mc] 25)).alloc (.cells #[.int .i64 k2, .bool b2, .int .i64 n2, .string s2, .slice la2 ll2 lc2, .slice ma2 ml2 mc2] 25)).heap.size = w.heap.size + 2 := by simp
  have c1 : Box6 ((w.alloc (.cells #[.int .i64 k, .bool b, .int .i64 n, .string s, .slice la ll lc, .slice ma ml mc] 25)).alloc (.cells #[.int .i64 k2, .bool b2, .int .i64 n2, .string s2, .slice la2 ll2 lc2, .slice ma2 ml2 mc2] 25)) w.heap.size #[.int .i64 k, .bool b, .int .i64 n, .string s, .slice la ll lc, .slice ma ml mc] := (Box6.new w _ _).later ((Below.refl (w.heap.size + 1) _).alloc (by simp) _) (by omega)
  have c2 := Box6.new (w.alloc (.cells #[.int .i64 k, .bool b, .int .i64 n, .string s, .slice la ll lc, .slice ma ml mc] 25)) #[.int .i64 k2, .bool b2, .int .i64 n2, .string s2, .slice la2 ll2 lc2, .slice ma2 ml2 mc2] 25
  rw [World.size_alloc] at c2
  clear h1 h2 hS
  go_enter Try.func14, Try.ntmps14
  go_upto_region 1 with fail
  generalize (w.alloc (.cells #[.int .i64 k, .bool b, .int .i64 n, .string s, .slice la ll lc, .slice ma ml mc] 25)).alloc (.cells #[.int .i64 k2, .bool b2, .int .i64 n2, .string s2, .slice la2 ll2 lc2, .slice ma2 ml2 mc2] 25) = v at hb0 hsz c1 c2 ⊢
  have HV := Lib.hid hb0
  have C1 := Lib.hid c1
  have C2 := Lib.hid c2
  have hv2 : w.heap.size + 2 ≤ v.heap.size := by omega
  obtain ⟨x0, x1, x2, x3, x4, x5⟩ := c1.six
  obtain ⟨y0, y1, y2, y3, y4, y5⟩ := c2.six
  have hr := right_any (two_values (H1.out.later hb0) (H2.out.later hb0)) _ (Below.refl _ _)
  have HR := Lib.hid hr
  have hal := (Below.refl v.heap.size v).alloc (Nat.le_refl _) (.cells #[.int .i64 k, .bool b, .int .i64 n, .string s, .slice la ll lc, .slice ma ml mc, .int .i64 k2, .bool b2, .int .i64 n2, .string s2, .slice la2 ll2 lc2, .slice ma2 ml2 mc2] 25)
  have HAL := Lib.hid hal
  clear hb0 hsz c1 c2 hr hal
  have AW : Hid (∀ w1, Below v.heap.size v w1 → Calls Try.prog 49 #[] w1 fun e w' => e = .returned (.bool true) ∧ Below v.heap.size v w') := fun w1 hb => (l2awake_any w1).mono fun e w' ⟨he, hw⟩ => ⟨he, bstep hb hw hb.size⟩
  cases hg : [t, x].all T.good with
  | false =>
    rw [hg] at HR
    clear hg
    go_wp2_with (first
      | (go_at_call 30; refine HR.out.mono ?_; rintro e w2 ⟨rfl, hb2⟩; have HB2 := Lib.hid (bstep HAL.out hb2 HAL.out.size); clear hb2)
      | (go_at_call 49; refine (AW.out _ HB2.out).mono ?_; rintro e w3 ⟨rfl, hb3⟩))
    go_ret
    exact ⟨rfl, bstep HV.out hb3 HV.out.size⟩
  | true =>
    have hgt : t.good = true := by simp at hg; exact hg.1
    rw [hg] at HR
    have HGT := Lib.hid hgt
    clear hg hgt
    cases hst : stepsB ks with
    | false =>
      have ST : Hid (∀ w1, Below w.heap.size w w1 → Calls Try.prog 48 #[.slice sa ks.length sc] w1 fun e w' => e = .returned (.bool false) ∧ w' = w1) := fun w1 hb => by have := l2Steps_any HS.out w1 hb; rw [hst] at this; exact this
      clear hst
      go_wp2_with (first
        | (go_at_call 30; refine HR.out.mono ?_; rintro e w2 ⟨rfl, hb2⟩; have HB2 := Lib.hid (bstep HAL.out hb2 HAL.out.size); clear hb2)
        | (go_at_call 48; refine (ST.out _ (bstep HV.out HB2.out HV.out.size)).mono ?_; rintro e wq ⟨rfl, hwq⟩; have hwq2 := hwq.symm; subst hwq2)
        | (go_at_call 49; refine (AW.out _ HB2.out).mono ?_; rintro e w3 ⟨rfl, hb3⟩))
      go_ret
      exact ⟨rfl, bstep HV.out hb3 HV.out.size⟩
    | true =>
      have ST : Hid (∀ w1, Below w.heap.size w w1 → Calls Try.prog 48 #[.slice sa ks.length sc] w1 fun e w' => e = .returned (.bool true) ∧ w' = w1) := fun w1 hb => by have := l2Steps_any HS.out w1 hb; rw [hst] at this; exact this
      have HST := Lib.hid hst
      clear hst
      by_cases hlen : 2 ≤ ks.length
      case neg =>
        go_wp2_with (first
          | (go_at_call 30; refine HR.out.mono ?_; rintro e w2 ⟨rfl, hb2⟩; have HB2 := Lib.hid (bstep HAL.out hb2 HAL.out.size); clear hb2)
          | (go_at_call 48; refine (ST.out _ (bstep HV.out HB2.out HV.out.size)).mono ?_; rintro e wq ⟨rfl, hwq⟩; have hwq2 := hwq.symm; subst hwq2)
          | (go_at_call 49; refine (AW.out _ HB2.out).mono ?_; rintro e w3 ⟨rfl, hb3⟩))
        go_ret
        exact ⟨rfl, bstep HV.out hb3 HV.out.size⟩
      case pos =>
        go_upto_region 3 with (first
          | (go_at_call 30; refine HR.out.mono ?_; rintro e w2 ⟨rfl, hb2⟩; have HB2 := Lib.hid (bstep HAL.out hb2 HAL.out.size); clear hb2)
          | (go_at_call 48; refine (ST.out _ (bstep HV.out HB2.out HV.out.size)).mono ?_; rintro e wq ⟨rfl, hwq⟩; have hwq2 := hwq.symm; subst hwq2))
        have HBW := Lib.hid (bstep HV.out HB2.out HV.out.size)
        have hs2 := HB2.out.size
        obtain ⟨sb, so, rfl, kc⟩ := HS.out.at HBW.out (show 0 < ks.length by omega)
        have hsbw : sb < w.heap.size := World.block_lt_of_cell? _ _ (HS.out.cell 0 (by omega) sb so rfl)
        have kc : w2.cell? ⟨sb, so, none⟩ = some (.string ks[0]) := by simpa using kc
        have KC := Lib.hid kc
        have hX1 := Lib.hid (C1.out.later HB2.out (by omega))
        clear x0 x1 x2 x3 x4 x5 y0 y1 y2 y3 y4 y5
        have SK : Hid (∀ wx : World, Below w2.heap.size w2 wx → wx.cell? ⟨w.heap.size, 0, none⟩ = some (.int .i64 k) ∧ wx.cell? ⟨w.heap.size, 1, none⟩ = some (.bool b) ∧ wx.cell? ⟨w.heap.size, 2, none⟩ = some (.int .i64 n) ∧ wx.cell? ⟨w.heap.size, 3, none⟩ = some (.string s) ∧ wx.cell? ⟨w.heap.size, 4, none⟩ = some (.slice la ll lc) ∧ wx.cell? ⟨w.heap.size, 5, none⟩ = some (.slice ma ml mc) ∧ wx.cell? ⟨sb, so, none⟩ = some (.string ks[0])) := fun wx hx => by
          obtain ⟨q0, q1, q2, q3, q4, q5⟩ := (hX1.out.later hx (by omega)).six
          exact ⟨q0, q1, q2, q3, q4, q5, cells_frame hx KC.out⟩
        have GT := Lib.hid (fun w' (hw' : Below w.heap.size w w') => tGet_any H1.out ks[0] w' hw')
        have hkpos : 0 < ks.length := by omega
        have SKC : ∀ (wx : World) (g : Nat) (v0 v1 v2 v3 v4 v5 : Value) (bb j : Nat), g ≠ bb → ((((((wx.setCell ⟨g, 0, none⟩ v0).setCell ⟨g, 1, none⟩ v1).setCell ⟨g, 2, none⟩ v2).setCell ⟨g, 3, none⟩ v3).setCell ⟨g, 4, none⟩ v4).setCell ⟨g, 5, none⟩ v5).cell? ⟨bb, j, none⟩ = wx.cell? ⟨bb, j, none⟩ := fun wx g v0 v1 v2 v3 v4 v5 bb j hg => by
          rw [World.cell?_setCell_other _ _ _ _ (by intro e; have := congrArg Addr.block e; simp only at this; omega), World.cell?_setCell_other _ _ _ _ (by intro e; have := congrArg Addr.block e; simp only at this; omega), World.cell?_setCell_other _ _ _ _ (by intro e; have := congrArg Addr.block e; simp only at this; omega), World.cell?_setCell_other _ _ _ _ (by intro e; have := congrArg Addr.block e; simp only at this; omega), World.cell?_setCell_other _ _ _ _ (by intro e; have := congrArg Addr.block e; simp only at this; omega), World.cell?_setCell_other _ _ _ _ (by intro e; have := congrArg Addr.block e; simp only at this; omega)]
        have SK2 : Hid (∀ (wx : World) (g : Nat) (v0 v1 v2 v3 v4 v5 : Value), g ≠ w.heap.size → g ≠ sb → wx.cell? ⟨w.heap.size, 0, none⟩ = some (.int .i64 k) ∧ wx.cell? ⟨w.heap.size, 1, none⟩ = some (.bool b) ∧ wx.cell? ⟨w.heap.size, 2, none⟩ = some (.int .i64 n) ∧ wx.cell? ⟨w.heap.size, 3, none⟩ = some (.string s) ∧ wx.cell? ⟨w.heap.size, 4, none⟩ = some (.slice la ll lc) ∧ wx.cell? ⟨w.heap.size, 5, none⟩ = some (.slice ma ml mc) ∧ wx.cell? ⟨sb, so, none⟩ = some (.string ks[0]) → ((((((wx.setCell ⟨g, 0, none⟩ v0).setCell ⟨g, 1, none⟩ v1).setCell ⟨g, 2, none⟩ v2).setCell ⟨g, 3, none⟩ v3).setCell ⟨g, 4, none⟩ v4).setCell ⟨g, 5, none⟩ v5).cell? ⟨w.heap.size, 0, none⟩ = some (.int .i64 k) ∧ ((((((wx.setCell ⟨g, 0, none⟩ v0).setCell ⟨g, 1, none⟩ v1).setCell ⟨g, 2, none⟩ v2).setCell ⟨g, 3, none⟩ v3).setCell ⟨g, 4, none⟩ v4).setCell ⟨g, 5, none⟩ v5).cell? ⟨w.heap.size, 1, none⟩ = some (.bool b) ∧ ((((((wx.setCell ⟨g, 0, none⟩ v0).setCell ⟨g, 1, none⟩ v1).setCell ⟨g, 2, none⟩ v2).setCell ⟨g, 3, none⟩ v3).setCell ⟨g, 4, none⟩ v4).setCell ⟨g, 5, none⟩ v5).cell? ⟨w.heap.size, 2, none⟩ = some (.int .i64 n) ∧ ((((((wx.setCell ⟨g, 0, none⟩ v0).setCell ⟨g, 1, none⟩ v1).setCell ⟨g, 2, none⟩ v2).setCell ⟨g, 3, none⟩ v3).setCell ⟨g, 4, none⟩ v4).setCell ⟨g, 5, none⟩ v5).cell? ⟨w.heap.size, 3, none⟩ = some (.string s) ∧ ((((((wx.setCell ⟨g, 0, none⟩ v0).setCell ⟨g, 1, none⟩ v1).setCell ⟨g, 2, none⟩ v2).setCell ⟨g, 3, none⟩ v3).setCell ⟨g, 4, none⟩ v4).setCell ⟨g, 5, none⟩ v5).cell? ⟨w.heap.size, 4, none⟩ = some (.slice la ll lc) ∧ ((((((wx.setCell ⟨g, 0, none⟩ v0).setCell ⟨g, 1, none⟩ v1).setCell ⟨g, 2, none⟩ v2).setCell ⟨g, 3, none⟩ v3).setCell ⟨g, 4, none⟩ v4).setCell ⟨g, 5, none⟩ v5).cell? ⟨w.heap.size, 5, none⟩ = some (.slice ma ml mc) ∧ ((((((wx.setCell ⟨g, 0, none⟩ v0).setCell ⟨g, 1, none⟩ v1).setCell ⟨g, 2, none⟩ v2).setCell ⟨g, 3, none⟩ v3).setCell ⟨g, 4, none⟩ v4).setCell ⟨g, 5, none⟩ v5).cell? ⟨sb, so, none⟩ = some (.string ks[0])) := fun wx g v0 v1 v2 v3 v4 v5 hg hg2 h => by
          simp only [SKC _ _ _ _ _ _ _ _ _ _ hg, SKC _ _ _ _ _ _ _ _ _ _ hg2]
          exact h
        clear SKC
        go_cut [7, 8] (fun p q wx => ∃ (g : Nat) (ds : Array Value), p = .pointer (some ⟨g, 0, none⟩) ∧ q = .bool (t.get ks[0]).isSome ∧ Hid (Box6 wx g ds) ∧ Hid (Lies wx (fun _ => True) (inL ks[0] t) ds) ∧ g < wx.heap.size ∧ Below w2.heap.size w2 wx)
        case first =>
          go_region_held3 (fun wx : World => wx.cell? ⟨w.heap.size, 0, none⟩ = some (.int .i64 k) ∧ wx.cell? ⟨w.heap.size, 1, none⟩ = some (.bool b) ∧ wx.cell? ⟨w.heap.size, 2, none⟩ = some (.int .i64 n) ∧ wx.cell? ⟨w.heap.size, 3, none⟩ = some (.string s) ∧ wx.cell? ⟨w.heap.size, 4, none⟩ = some (.slice la ll lc) ∧ wx.cell? ⟨w.heap.size, 5, none⟩ = some (.slice ma ml mc) ∧ wx.cell? ⟨sb, so, none⟩ = some (.string ks[0]))
            (first
              | with_reducible exact SK2.out _ _ _ _ _ _ _ _ (by omega) (by omega) (SK.out _ hV5)
              | with_reducible exact SK.out _ hV5
              | with_reducible exact SK.out _ (bbox hV5 _ hV5.size)
              | exact SK.out _ (Below.refl _ _).drew
              | exact SK.out _ (bbox (Below.refl _ _) _ (Nat.le_refl _)).drew
              | exact SK.out _ ((bbox (Below.refl _ _) _ (Nat.le_refl _)))
              | fail)
            (first
             | (go_at_call 36
                with_reducible refine (GT.out _ (HBW.out.drew)).mono ?_
                rintro e w5 ⟨ds, rfl, hL5, hb5⟩
                obtain ⟨d0, d1, d2, d3, d4, d4l, d4c, d5, d5l, d5c, rfl⟩ := hL5.six
                have hV5 : Below w2.heap.size w2 w5 := undrew hb5
                have hs5 := hV5.size)
             | (go_at_call 36
                refine (GT.out _ (bbox HBW.out (.cells zeroV 25) HBW.out.size).drew).mono ?_
                rintro e w5 ⟨ds, rfl, hL5, hb5⟩
                obtain ⟨d0, d1, d2, d3, d4, d4l, d4c, d5, d5l, d5c, rfl⟩ := hL5.six
                have hV5 : Below w2.heap.size w2 w5 := bunbox (undrew hb5) (Nat.le_refl _) (by simp)
                have hs5 : w2.heap.size + 1 ≤ w5.heap.size := by have := hb5.size; simp only [World.size_drew, World.size_alloc] at this; omega
                have Z5 := Lib.hid ((Box6.new w2 zeroV 25).later (undrew hb5) (by simp))
                obtain ⟨z0, z1, z2, z3, z4, z5⟩ := Z5.out.six
                obtain ⟨f0, f1, f2, f3, f4, f5⟩ := ((Thaw.new w2 zeroV 25).later (undrew hb5) (by simp)).six))
          · go_wp2_with fail
            go_meet
            case rel => exact ⟨w5.heap.size, _, rfl, rfl, Box6.new w5 _ 25, (hL5.later ((Below.refl _ w5).alloc (Nat.le_refl _) _)).weaken (fun _ _ => trivial), by simp, bbox hV5 _ hV5.size⟩
          · go_wp2_with fail
            go_meet
            case rel => exact ⟨w2.heap.size, _, rfl, rfl, Z5.out.store rfl _ _ _ _ _ _, (hL5.keep (w' := setRow w5 w2.heap.size 0 [.int .i64 d0, .bool d1, .int .i64 d2, .string d3, .slice d4 d4l d4c, .slice d5 d5l d5c]) (fun bb hb => setRow_heap _ _ _ _ _ (by simp only [World.size_drew, World.size_alloc] at hb; omega))).weaken (fun _ _ => trivial), by show _ < (setRow w5 w2.heap.size 0 [.int .i64 d0, .bool d1, .int .i64 d2, .string d3, .slice d4 d4l d4c, .slice d5 d5l d5c]).heap.size; rw [setRow_size]; omega, setRow_below w2.heap.size (Nat.le_refl _) [.int .i64 d0, .bool d1, .int .i64 d2, .string d3, .slice d4 d4l d4c, .slice d5 d5l d5c] w5 0 hV5⟩
        case rest =>
          obtain ⟨g1, ds1, rfl, rfl, HG1, HL1, hg1, hb3⟩ := hcut
          obtain ⟨w3, rfl⟩ : ∃ w3 : World, w3 = wc := ⟨_, rfl⟩
          have HB3 := Lib.hid (bstep HB2.out hb3 HB2.out.size)
          have HW3 := Lib.hid (bstep HBW.out hb3 HBW.out.size)
          obtain ⟨x0, x1, x2, x3, x4, x5⟩ := (hX1.out.later hb3 (by omega)).six
          have PG := Lib.hid (fun w' (hw' : Below w.heap.size w w') => pGet_any H1.out HS.out w' hw')
          clear hb3
          go_upto_region 5 with (go_at_call 50; refine (PG.out w3 HW3.out).mono ?_; rintro e w4 ⟨avs, rfl, hLa, hb4⟩; obtain ⟨a0, a1, a2, a3, a4, a4l, a4c, a5, a5l, a5c, rfl⟩ := hLa.six; have HLA0 := Lib.hid hLa; have HB4 := Lib.hid hb4; clear hLa hb4)
          have hs4 := HB4.out.size
          have b4 := Box6.new w4 #[.int .i64 a0, .bool a1, .int .i64 a2, .string a3, .slice a4 a4l a4c, .slice a5 a5l a5c] 25
          have hb5 := HB4.out.alloc HB4.out.size (.cells #[.int .i64 a0, .bool a1, .int .i64 a2, .string a3, .slice a4 a4l a4c, .slice a5 a5l a5c] 25)
          have hl5 : Lies _ (fun _ => True) ((atL ks t).getD T.nil) #[.int .i64 a0, .bool a1, .int .i64 a2, .string a3, .slice a4 a4l a4c, .slice a5 a5l a5c] := (HLA0.out.later ((Below.refl w4.heap.size w4).alloc (Nat.le_refl _) (.cells #[.int .i64 a0, .bool a1, .int .i64 a2, .string a3, .slice a4 a4l a4c, .slice a5 a5l a5c] 25))).weaken fun _ _ => trivial
          have hs5 : w4.heap.size < (w4.alloc (.cells #[.int .i64 a0, .bool a1, .int .i64 a2, .string a3, .slice a4 a4l a4c, .slice a5 a5l a5c] 25)).heap.size := by simp
          generalize w4.alloc (.cells #[.int .i64 a0, .bool a1, .int .i64 a2, .string a3, .slice a4 a4l a4c, .slice a5 a5l a5c] 25) = v4 at b4 hb5 hl5 hs5 ⊢
          have hgv : g1 < v4.heap.size := by omega
          have HB5 := Lib.hid hb5
          have BA4 := Lib.hid b4
          have HLA := Lib.hid hl5
          have HL1v := Lib.hid (HL1.out.later hb5)
          have HG1v := Lib.hid (HG1.out.later hb5 hg1)
          have HVW := Lib.hid (bstep HW3.out hb5 HW3.out.size)
          obtain ⟨p0, p1, p2, p3, p4, p4l, p4c, p5, p5l, p5c, rfl⟩ := HL1.out.six
          clear x0 x1 x2 x3 x4 x5 b4 hb5 hl5 SK SK2 GT
          have hvs := HVW.out.size
          have SK : Hid (∀ wx : World, Below v4.heap.size v4 wx → wx.cell? ⟨g1, 0, none⟩ = some (.int .i64 p0) ∧ wx.cell? ⟨g1, 1, none⟩ = some (.bool p1) ∧ wx.cell? ⟨g1, 2, none⟩ = some (.int .i64 p2) ∧ wx.cell? ⟨g1, 3, none⟩ = some (.string p3) ∧ wx.cell? ⟨g1, 4, none⟩ = some (.slice p4 p4l p4c) ∧ wx.cell? ⟨g1, 5, none⟩ = some (.slice p5 p5l p5c)) := fun wx hx => (HG1v.out.later hx hgv).six
          obtain ⟨rs, hrs⟩ : ∃ rs, ks.drop 1 = rs := ⟨_, rfl⟩
          have hdl : rs.length = ks.length - 1 := by rw [← hrs]; simp
          have HRS := Lib.hid hrs
          have GT2 : Hid (∀ w', Below v4.heap.size v4 w' → Calls Try.prog 50 #[.agg #[.int .i64 p0, .bool p1, .int .i64 p2, .string p3, .slice p4 p4l p4c, .slice p5 p5l p5c], .slice (some ⟨sb, so + 1, none⟩) (ks.length - 1) (sc - 1)] w' (Got w' (atL rs (inL ks[0] t)))) := fun w' hw' => by
            have := pGet_any HL1v.out ((HS.out.later HVW.out).drop1 (by omega)) w' hw'
            rw [hrs, hdl] at this
            exact this
          have BS5 : Hid (Below v4.heap.size v4 v4) := Below.refl _ _
          have hsc2 : 2 ≤ sc := by omega
          have hsc1 : (sc = 1) = False := by simp; omega
          have hI1 : (1 : Int) ≤ (ks.length : Int) := by omega
          have hI2 : (ks.length : Int) ≤ (sc : Int) := by omega
          have HDL := Lib.hid hdl
          clear hrs hdl
          have SKC : ∀ (wx : World) (g : Nat) (v0 v1 v2 v3 v4 v5 : Value) (bb j : Nat), g ≠ bb → ((((((wx.setCell ⟨g, 0, none⟩ v0).setCell ⟨g, 1, none⟩ v1).setCell ⟨g, 2, none⟩ v2).setCell ⟨g, 3, none⟩ v3).setCell ⟨g, 4, none⟩ v4).setCell ⟨g, 5, none⟩ v5).cell? ⟨bb, j, none⟩ = wx.cell? ⟨bb, j, none⟩ := fun wx g v0 v1 v2 v3 v4 v5 bb j hg => by
            rw [World.cell?_setCell_other _ _ _ _ (by intro e; have := congrArg Addr.block e; simp only at this; omega), World.cell?_setCell_other _ _ _ _ (by intro e; have := congrArg Addr.block e; simp only at this; omega), World.cell?_setCell_other _ _ _ _ (by intro e; have := congrArg Addr.block e; simp only at this; omega), World.cell?_setCell_other _ _ _ _ (by intro e; have := congrArg Addr.block e; simp only at this; omega), World.cell?_setCell_other _ _ _ _ (by intro e; have := congrArg Addr.block e; simp only at this; omega), World.cell?_setCell_other _ _ _ _ (by intro e; have := congrArg Addr.block e; simp only at this; omega)]
          have SK2 : Hid (∀ (wx : World) (g : Nat) (v0 v1 v2 v3 v4 v5 : Value), g ≠ g1 → g ≠ sb → wx.cell? ⟨g1, 0, none⟩ = some (.int .i64 p0) ∧ wx.cell? ⟨g1, 1, none⟩ = some (.bool p1) ∧ wx.cell? ⟨g1, 2, none⟩ = some (.int .i64 p2) ∧ wx.cell? ⟨g1, 3, none⟩ = some (.string p3) ∧ wx.cell? ⟨g1, 4, none⟩ = some (.slice p4 p4l p4c) ∧ wx.cell? ⟨g1, 5, none⟩ = some (.slice p5 p5l p5c) → ((((((wx.setCell ⟨g, 0, none⟩ v0).setCell ⟨g, 1, none⟩ v1).setCell ⟨g, 2, none⟩ v2).setCell ⟨g, 3, none⟩ v3).setCell ⟨g, 4, none⟩ v4).setCell ⟨g, 5, none⟩ v5).cell? ⟨g1, 0, none⟩ = some (.int .i64 p0) ∧ ((((((wx.setCell ⟨g, 0, none⟩ v0).setCell ⟨g, 1, none⟩ v1).setCell ⟨g, 2, none⟩ v2).setCell ⟨g, 3, none⟩ v3).setCell ⟨g, 4, none⟩ v4).setCell ⟨g, 5, none⟩ v5).cell? ⟨g1, 1, none⟩ = some (.bool p1) ∧ ((((((wx.setCell ⟨g, 0, none⟩ v0).setCell ⟨g, 1, none⟩ v1).setCell ⟨g, 2, none⟩ v2).setCell ⟨g, 3, none⟩ v3).setCell ⟨g, 4, none⟩ v4).setCell ⟨g, 5, none⟩ v5).cell? ⟨g1, 2, none⟩ = some (.int .i64 p2) ∧ ((((((wx.setCell ⟨g, 0, none⟩ v0).setCell ⟨g, 1, none⟩ v1).setCell ⟨g, 2, none⟩ v2).setCell ⟨g, 3, none⟩ v3).setCell ⟨g, 4, none⟩ v4).setCell ⟨g, 5, none⟩ v5).cell? ⟨g1, 3, none⟩ = some (.string p3) ∧ ((((((wx.setCell ⟨g, 0, none⟩ v0).setCell ⟨g, 1, none⟩ v1).setCell ⟨g, 2, none⟩ v2).setCell ⟨g, 3, none⟩ v3).setCell ⟨g, 4, none⟩ v4).setCell ⟨g, 5, none⟩ v5).cell? ⟨g1, 4, none⟩ = some (.slice p4 p4l p4c) ∧ ((((((wx.setCell ⟨g, 0, none⟩ v0).setCell ⟨g, 1, none⟩ v1).setCell ⟨g, 2, none⟩ v2).setCell ⟨g, 3, none⟩ v3).setCell ⟨g, 4, none⟩ v4).setCell ⟨g, 5, none⟩ v5).cell? ⟨g1, 5, none⟩ = some (.slice p5 p5l p5c)) := fun wx g v0 v1 v2 v3 v4 v5 hg hg2 h => by
            simp only [SKC _ _ _ _ _ _ _ _ _ _ hg, SKC _ _ _ _ _ _ _ _ _ _ hg2]
            exact h
          clear SKC
          go_cut [11, 12] (fun p q wx => ∃ (g : Nat) (ds : Array Value), p = .pointer (some ⟨g, 0, none⟩) ∧ q = .bool (atL rs (inL ks[0] t)).isSome ∧ Hid (Box6 wx g ds) ∧ Hid (Lies wx (fun _ => True) ((atL rs (inL ks[0] t)).getD T.nil) ds) ∧ g < wx.heap.size ∧ Below v4.heap.size v4 wx)
          case first =>
            go_region_held3 (fun wx : World => wx.cell? ⟨g1, 0, none⟩ = some (.int .i64 p0) ∧ wx.cell? ⟨g1, 1, none⟩ = some (.bool p1) ∧ wx.cell? ⟨g1, 2, none⟩ = some (.int .i64 p2) ∧ wx.cell? ⟨g1, 3, none⟩ = some (.string p3) ∧ wx.cell? ⟨g1, 4, none⟩ = some (.slice p4 p4l p4c) ∧ wx.cell? ⟨g1, 5, none⟩ = some (.slice p5 p5l p5c))
              (first
                | with_reducible exact SK2.out _ _ _ _ _ _ _ _ (by omega) (by omega) (SK.out _ hV5)
                | with_reducible exact SK.out _ hV5
                | with_reducible exact SK.out _ (bbox hV5 _ hV5.size)
                | exact SK.out _ (Below.refl _ _).drew
                | exact SK.out _ (bbox (Below.refl _ _) _ (Nat.le_refl _)).drew
                | exact SK.out _ ((bbox (Below.refl _ _) _ (Nat.le_refl _)))
                | fail)
              (first
               | (go_at_call 50
                  with_reducible refine (GT2.out _ (BS5.out.drew)).mono ?_
                  rintro e w5 ⟨ds, rfl, hL5, hb5⟩
                  obtain ⟨d0, d1, d2, d3, d4, d4l, d4c, d5, d5l, d5c, rfl⟩ := hL5.six
                  have hV5 : Below v4.heap.size v4 w5 := undrew hb5
                  have hs5 := hV5.size)
               | (go_at_call 50
                  refine (GT2.out _ (bbox BS5.out (.cells zeroV 25) BS5.out.size).drew).mono ?_
                  rintro e w5 ⟨ds, rfl, hL5, hb5⟩
                  obtain ⟨d0, d1, d2, d3, d4, d4l, d4c, d5, d5l, d5c, rfl⟩ := hL5.six
                  have hV5 : Below v4.heap.size v4 w5 := bunbox (undrew hb5) (Nat.le_refl _) (by simp)
                  have hs5 : v4.heap.size + 1 ≤ w5.heap.size := by have := hb5.size; simp only [World.size_drew, World.size_alloc] at this; omega
                  have Z5 := Lib.hid ((Box6.new v4 zeroV 25).later (undrew hb5) (by simp))
                  obtain ⟨z0, z1, z2, z3, z4, z5⟩ := Z5.out.six
                  obtain ⟨f0, f1, f2, f3, f4, f5⟩ := ((Thaw.new v4 zeroV 25).later (undrew hb5) (by simp)).six))
            · go_wp2_with fail
              go_meet
              case rel => exact ⟨w5.heap.size, _, rfl, rfl, Box6.new w5 _ 25, (hL5.later ((Below.refl _ w5).alloc (Nat.le_refl _) _)).weaken (fun _ _ => trivial), by simp, bbox hV5 _ hV5.size⟩
            · go_wp2_with fail
              go_meet
              case rel => exact ⟨v4.heap.size, _, rfl, rfl, Z5.out.store rfl _ _ _ _ _ _, (hL5.keep (w' := setRow w5 v4.heap.size 0 [.int .i64 d0, .bool d1, .int .i64 d2, .string d3, .slice d4 d4l d4c, .slice d5 d5l d5c]) (fun bb hb => setRow_heap _ _ _ _ _ (by simp only [World.size_drew, World.size_alloc] at hb; omega))).weaken (fun _ _ => trivial), by show _ < (setRow w5 v4.heap.size 0 [.int .i64 d0, .bool d1, .int .i64 d2, .string d3, .slice d4 d4l d4c, .slice d5 d5l d5c]).heap.size; rw [setRow_size]; omega, setRow_below v4.heap.size (Nat.le_refl _) [.int .i64 d0, .bool d1, .int .i64 d2, .string d3, .slice d4 d4l d4c, .slice d5 d5l d5c] w5 0 hV5⟩
          case rest =>
            obtain ⟨g2, ds2, rfl, rfl, HG2, HL2, hg2, hb6⟩ := hcut
            obtain ⟨w6, rfl⟩ : ∃ w6 : World, w6 = wc := ⟨_, rfl⟩
            obtain ⟨e0, e1, e2, e3, e4, e4l, e4c, e5, e5l, e5c, rfl⟩ := HL2.out.six
            have HB6 := Lib.hid hb6
            have hs6 := HB6.out.size
            have hcons : ks = ks[0] :: rs := by
              have := List.drop_eq_getElem_cons (l := ks) (i := 0) (by omega)
              rw [List.drop_zero, HRS.out] at this
              exact this
            have hat : atL ks t = (t.get ks[0]).bind (atL rs) := by
              conv => lhs; rw [hcons]
              rfl
            have hput : putL ks t x = t.put ks[0] (putL rs (inL ks[0] t) x) := by
              conv => lhs; rw [hcons]
              rfl
            have HAT := Lib.hid hat
            have HPT := Lib.hid hput
            have HLA6 := Lib.hid (HLA.out.later HB6.out)
            have BA6 := Lib.hid (BA4.out.later HB6.out hs5)
            have SM : Hid (T.same ((atL ks t).getD T.nil) ((atL rs (inL ks[0] t)).getD T.nil) = true ∨ t.get ks[0] = none) := by
              show _ ∨ _
              cases h : t.get ks[0] with
              | none => exact .inr rfl
              | some u0 =>
                refine .inl ?_
                rw [HAT.out, inL, h]
                exact T.same_self _
            clear hb6 hcons hat hput
            go_upto_region 6 with fail
            go_cut [8, 10, 12, 68] (fun q8 q10 q12 q wx => q = .bool false ∧ Below w6.heap.size w6 wx)
            case first =>
              cases hgk : t.get ks[0] with
              | none =>
                have hn : (atL ks t).isSome = false := by rw [HAT.out, hgk]; rfl
                rw [hn]
                have hn2 : (none : Option T).isSome = false := rfl
                rw [hn2]
                clear hn hn2 hgk SM
                go_wp2_with fail
                go_meet
                case rel => exact ⟨rfl, Below.refl _ _⟩
              | some u0 =>
                have hn : (atL ks t).isSome = (atL rs (inL ks[0] t)).isSome := by rw [HAT.out, inL, hgk]; rfl
                rw [hn]
                have hn2 : (some u0).isSome = true := rfl
                rw [hn2]
                have hsm : T.same ((atL ks t).getD T.nil) ((atL rs (inL ks[0] t)).getD T.nil) = true := by
                  rcases SM.out with h | h
                  · exact h
                  · rw [hgk] at h; cases h
                have SMC := rSame_any HLA6.out HL2.out w6 (Below.refl _ _)
                rw [hsm] at SMC
                have SMH := Lib.hid SMC
                generalize (atL rs (inL ks[0] t)).isSome = bb
                obtain ⟨q0, q1, q2, q3, q4, q5⟩ := BA6.out.six
                obtain ⟨p0', p1', p2', p3', p4', p5'⟩ := HG2.out.six
                clear hn hn2 hgk SM SMC hsm
                cases bb with
                | true =>
                  go_wp2_with (go_at_call 25; refine SMH.out.mono ?_; rintro e w7 ⟨rfl, hb7⟩)
                  go_meet
                  case rel => exact ⟨rfl, hb7⟩
                | false =>
                  go_wp2_with (go_at_call 25; refine SMH.out.mono ?_; rintro e w7 ⟨rfl, hb7⟩)
                  go_meet
                  case rel => exact ⟨rfl, hb7⟩
            case rest =>
              obtain ⟨rfl, hb8⟩ := hcut
              obtain ⟨u, rfl⟩ : ∃ u : World, u = wc := ⟨_, rfl⟩
              have HU4 := Lib.hid (bstep HB6.out hb8 HB6.out.size)
              have hsu := HU4.out.size
              have HWU := Lib.hid (bstep HVW.out HU4.out HVW.out.size)
              have HVU := Lib.hid (bstep HB3.out (bstep HB5.out HU4.out HB5.out.size) HB3.out.size)
              obtain ⟨q0, q1, q2, q3, q4, q5⟩ := (C1.out.later HVU.out (by omega)).six
              obtain ⟨r0, r1, r2, r3, r4, r5⟩ := (C2.out.later HVU.out (by omega)).six
              obtain ⟨g0, g1', g2', g3, g4, g5⟩ := (HG1v.out.later HU4.out hgv).six
              have ku := cells_frame HWU.out (HS.out.cell 0 (by omega) sb so rfl)
              rw [Nat.add_zero] at ku
              have hkz := HS.out.sizes 0 (by omega)
              have hlt : t.size ≤ 6000 := by
                have h := HGT.out
                unfold T.good at h
                simp only [Bool.and_eq_true] at h
                exact T.light_size h.1
              have hk14 : ks.length ≤ 14 := by
                have h := HST.out
                unfold stepsB at h
                simp only [Bool.and_eq_true, decide_eq_true_eq] at h
                exact h.2
              have hin : (inL ks[0] t).size ≤ 1000000 := Nat.le_trans (in_size _ _) (by omega)
              have hbigt : (t.pairs.length + 1) * 104 ≤ 140737488355328 := by have := t.pairs_size; omega
              have PU1 : Hid (∀ w', Below w.heap.size w w' → Calls Try.prog 52 #[.agg #[.int .i64 k, .bool b, .int .i64 n, .string s, .slice la ll lc, .slice ma ml mc], .agg #[.int .i64 k2, .bool b2, .int .i64 n2, .string s2, .slice la2 ll2 lc2, .slice ma2 ml2 mc2], .slice (some ⟨sb, so, none⟩) ks.length sc] w' (PutIn w' (putL ks t x))) := fun w' hw' => pPut_any H1.out H2.out HS.out (by omega) (by omega) w' hw'
              have HL1u := Lib.hid (HL1v.out.later HU4.out)
              have PU2 : Hid (∀ w', Below u.heap.size u w' → Calls Try.prog 52 #[.agg #[.int .i64 p0, .bool p1, .int .i64 p2, .string p3, .slice p4 p4l p4c, .slice p5 p5l p5c], .agg #[.int .i64 k2, .bool b2, .int .i64 n2, .string s2, .slice la2 ll2 lc2, .slice ma2 ml2 mc2], .slice (some ⟨sb, so + 1, none⟩) (ks.length - 1) (sc - 1)] w' (PutIn w' (putL rs (inL ks[0] t) x))) := fun w' hw' => by
                have := pPut_any HL1u.out (H2.out.later HWU.out) ((HS.out.later HWU.out).drop1 (by omega)) (by simp; omega) hin w' hw'
                rw [HRS.out, HDL.out] at this
                exact this
              have h1k : (ks.take 1).length = 1 := by rw [List.length_take]; omega
              have BG1 : Hid (∀ w', Below w.heap.size w w' → Calls Try.prog 61 #[.slice (some ⟨sb, so, none⟩) ks.length sc, .slice (some ⟨sb, so, none⟩) 1 sc] w' fun e w2 => e = .returned (.bool true) ∧ Below w'.heap.size w' w2) := fun w' hw' => by
                have := pBegins_any HS.out (HS.out.take 1 (by omega)) w' hw'
                rw [h1k] at this
                have hb : beginsB ks (ks.take 1) = true := by rw [beginsB, h1k, decide_eq_true (by omega), sameS, decide_eq_true rfl]; rfl
                rw [hb] at this
                exact this
              have BG2 : Hid (∀ w', Below w.heap.size w w' → Calls Try.prog 61 #[.slice (some ⟨sb, so, none⟩) 1 sc, .slice (some ⟨sb, so, none⟩) ks.length sc] w' fun e w2 => e = .returned (.bool false) ∧ Below w'.heap.size w' w2) := fun w' hw' => by
                have := pBegins_any (HS.out.take 1 (by omega)) HS.out w' hw'
                rw [h1k] at this
                have hb : beginsB (ks.take 1) ks = false := by rw [beginsB, h1k, decide_eq_false (by omega)]; rfl
                rw [hb] at this
                exact this
              have AW2 : Hid (∀ w', Calls Try.prog 49 #[] w' fun e w2 => e = .returned (.bool true) ∧ Below w'.heap.size w' w2) := fun w' => l2awake_any w'
              have hsc3 : (1 : Int) ≤ (sc : Int) := by omega
              clear h1k hin hlt hk14
              obtain ⟨xT, hxT⟩ : ∃ xT, xT = x := ⟨_, rfl⟩
              have HPX := Lib.hid HPT.out
              rw [← hxT] at HPX PU1 PU2
              go_upto_region 8 with fail
              refine wp_region_specs3 u 32 (fun i => match i with | 0 => 69 | 1 => 70 | 2 => 71 | 3 => 72 | 4 => 73 | 5 => 74 | 6 => 75 | 7 => 76 | 8 => 77 | 9 => 78 | 10 => 79 | 11 => 80 | 12 => 81 | 13 => 82 | 14 => 83 | 15 => 84 | 16 => 85 | 17 => 86 | 18 => 87 | 19 => 88 | 20 => 89 | 21 => 90 | 22 => 91 | 23 => 92 | 24 => 93 | 25 => 94 | 26 => 95 | 27 => 96 | 28 => 97 | 29 => 98 | 30 => 99 | 31 => 6 | _ => 0) (fun i x wx => match i with | 0 => x = .bool true | 1 => x = .bool true | 2 => x = .agg #[.int .i64 k, .bool b, .int .i64 n, .string s, .slice la ll lc, .slice ma ml mc] | 3 => x = .agg #[.int .i64 k2, .bool b2, .int .i64 n2, .string s2, .slice la2 ll2 lc2, .slice ma2 ml2 mc2] | 4 => x = .slice (some ⟨sb, so, none⟩) ks.length sc | 5 => ∃ ds : Array Value, x = .agg ds ∧ Lies wx (fun _ => True) (putL ks t xT) ds | 6 => x = .agg #[.int .i64 k, .bool b, .int .i64 n, .string s, .slice la ll lc, .slice ma ml mc] | 7 => x = .slice (some ⟨sb, so, none⟩) ks.length sc | 8 => x = .pointer (some ⟨sb, so, none⟩) | 9 => x = .string ks[0] | 10 => x = .agg #[.int .i64 p0, .bool p1, .int .i64 p2, .string p3, .slice p4 p4l p4c, .slice p5 p5l p5c] | 11 => x = .agg #[.int .i64 k2, .bool b2, .int .i64 n2, .string s2, .slice la2 ll2 lc2, .slice ma2 ml2 mc2] | 12 => x = .slice (some ⟨sb, so, none⟩) ks.length sc | 13 => x = .slice (some ⟨sb, so + 1, none⟩) (ks.length - 1) (sc - 1) | 14 => ∃ ds : Array Value, x = .agg ds ∧ Lies wx (fun _ => True) (putL rs (inL ks[0] t) xT) ds | 15 => ∃ ds : Array Value, x = .agg ds ∧ Lies wx (fun _ => True) (t.put ks[0] (putL rs (inL ks[0] t) xT)) ds | 16 => x = .bool true | 17 => x = .bool true | 18 => x = .bool true | 19 => x = .slice (some ⟨sb, so, none⟩) ks.length sc | 20 => x = .slice (some ⟨sb, so, none⟩) ks.length sc | 21 => x = .slice (some ⟨sb, so, none⟩) 1 sc | 22 => x = .bool true | 23 => x = .bool true | 24 => x = .bool true | 25 => x = .slice (some ⟨sb, so, none⟩) ks.length sc | 26 => x = .slice (some ⟨sb, so, none⟩) 1 sc | 27 => x = .slice (some ⟨sb, so, none⟩) ks.length sc | 28 => x = .bool false | 29 => x = .bool true | 30 => x = .bool true | 31 => x = .bool true | _ => True) (by kernel_rfl) (by kernel_rfl) ?s1 (Below.refl _ _) ?s2 ?s3 ?s4 ?s5
              case s1 => intro i hi; rcases (by omega : i = 0 ∨ i = 1 ∨ i = 2 ∨ i = 3 ∨ i = 4 ∨ i = 5 ∨ i = 6 ∨ i = 7 ∨ i = 8 ∨ i = 9 ∨ i = 10 ∨ i = 11 ∨ i = 12 ∨ i = 13 ∨ i = 14 ∨ i = 15 ∨ i = 16 ∨ i = 17 ∨ i = 18 ∨ i = 19 ∨ i = 20 ∨ i = 21 ∨ i = 22 ∨ i = 23 ∨ i = 24 ∨ i = 25 ∨ i = 26 ∨ i = 27 ∨ i = 28 ∨ i = 29 ∨ i = 30 ∨ i = 31) with rfl | rfl | rfl | rfl | rfl | rfl | rfl | rfl | rfl | rfl | rfl | rfl | rfl | rfl | rfl | rfl | rfl | rfl | rfl | rfl | rfl | rfl | rfl | rfl | rfl | rfl | rfl | rfl | rfl | rfl | rfl | rfl <;> exact Nat.lt_of_lt_of_le (by decide : _ < 100) (Nat.le_refl 100)
              case s2 =>
                intro i x w1 w2 hb hU
                match i, hU with
                | 0, h => exact h
                | 5, ⟨ds, e, hL⟩ => exact ⟨ds, e, hL.later hb⟩
                | 14, ⟨ds, e, hL⟩ => exact ⟨ds, e, hL.later hb⟩
                | 15, ⟨ds, e, hL⟩ => exact ⟨ds, e, hL.later hb⟩
                | 16, h => exact h
                | 22, h => exact h
                | 28, h => exact h
                | 1, h | 2, h | 3, h | 4, h | 6, h | 7, h | 8, h | 9, h | 10, h | 11, h | 12, h | 13, h | 17, h | 18, h | 19, h | 20, h | 21, h | 23, h | 24, h | 25, h | 26, h | 27, h | 29, h | 30, h | 31, h => exact h
                | (n + 32), _ => trivial
              case s3 =>
                intro i o g b ho hg x w hu
                have hi : i < 32 := (Array.getElem?_eq_some_iff.1 ho).1
                rcases (by omega : i = 0 ∨ i = 1 ∨ i = 2 ∨ i = 3 ∨ i = 4 ∨ i = 5 ∨ i = 6 ∨ i = 7 ∨ i = 8 ∨ i = 9 ∨ i = 10 ∨ i = 11 ∨ i = 12 ∨ i = 13 ∨ i = 14 ∨ i = 15 ∨ i = 16 ∨ i = 17 ∨ i = 18 ∨ i = 19 ∨ i = 20 ∨ i = 21 ∨ i = 22 ∨ i = 23 ∨ i = 24 ∨ i = 25 ∨ i = 26 ∨ i = 27 ∨ i = 28 ∨ i = 29 ∨ i = 30 ∨ i = 31) with rfl | rfl | rfl | rfl | rfl | rfl | rfl | rfl | rfl | rfl | rfl | rfl | rfl | rfl | rfl | rfl | rfl | rfl | rfl | rfl | rfl | rfl | rfl | rfl | rfl | rfl | rfl | rfl | rfl | rfl | rfl | rfl
                · simp at ho; subst ho; cases hg
                · simp at ho; subst ho; cases hg
                · simp at ho; subst ho; cases hg; exact hu
                · simp at ho; subst ho; cases hg; exact hu
                · simp at ho; subst ho; cases hg; exact hu
                · simp at ho; subst ho; cases hg; exact hu
                · simp at ho; subst ho; cases hg; exact hu
                · simp at ho; subst ho; cases hg; exact hu
                · simp at ho; subst ho; cases hg; exact hu
                · simp at ho; subst ho; cases hg; exact hu
                · simp at ho; subst ho; cases hg; exact hu
                · simp at ho; subst ho; cases hg; exact hu
                · simp at ho; subst ho; cases hg; exact hu
                · simp at ho; subst ho; cases hg; exact hu
                · simp at ho; subst ho; cases hg; exact hu
                · simp at ho; subst ho; cases hg; exact hu
                · simp at ho; subst ho; cases hg; exact hu
                · simp at ho; subst ho; cases hg
                · simp at ho; subst ho; cases hg
                · simp at ho; subst ho; cases hg; exact hu
                · simp at ho; subst ho; cases hg; exact hu
                · simp at ho; subst ho; cases hg; exact hu
                · simp at ho; subst ho; cases hg; exact hu
                · simp at ho; subst ho; cases hg
                · simp at ho; subst ho; cases hg
                · simp at ho; subst ho; cases hg; exact hu
                · simp at ho; subst ho; cases hg; exact hu
                · simp at ho; subst ho; cases hg; exact hu
                · simp at ho; subst ho; cases hg; exact hu
                · simp at ho; subst ho; cases hg; exact hu
                · simp at ho; subst ho; cases hg
                · simp at ho; subst ho; cases hg
              case s4 =>
                intro i o ac wb K' ho hi hA hB hdep hK
                have sv2 : ac.tmps[2]?.getD undef = .slice (some ⟨sb, so, none⟩) ks.length sc := hA.sl (t := 2) (by decide)
                have sv3 : ac.tmps[3]?.getD undef = .pointer (some ⟨w.heap.size, 0, none⟩) := hA.sl (t := 3) (by decide)
                have sv4 : ac.tmps[4]?.getD undef = .pointer (some ⟨w.heap.size + 1, 0, none⟩) := hA.sl (t := 4) (by decide)
                have sv7 : ac.tmps[7]?.getD undef = .pointer (some ⟨g1, 0, none⟩) := hA.sl (t := 7) (by decide)
                have q0 := cells_frame hB q0
                have q1 := cells_frame hB q1
                have q2 := cells_frame hB q2
                have q3 := cells_frame hB q3
                have q4 := cells_frame hB q4
                have q5 := cells_frame hB q5
                have r0 := cells_frame hB r0
                have r1 := cells_frame hB r1
                have r2 := cells_frame hB r2
                have r3 := cells_frame hB r3
                have r4 := cells_frame hB r4
                have r5 := cells_frame hB r5
                have g0 := cells_frame hB g0
                have g1' := cells_frame hB g1'
                have g2' := cells_frame hB g2'
                have g3 := cells_frame hB g3
                have g4 := cells_frame hB g4
                have g5 := cells_frame hB g5
                have ku := cells_frame hB ku
                rcases (by omega : i = 0 ∨ i = 1 ∨ i = 2 ∨ i = 3 ∨ i = 4 ∨ i = 5 ∨ i = 6 ∨ i = 7 ∨ i = 8 ∨ i = 9 ∨ i = 10 ∨ i = 11 ∨ i = 12 ∨ i = 13 ∨ i = 14 ∨ i = 15 ∨ i = 16 ∨ i = 17 ∨ i = 18 ∨ i = 19 ∨ i = 20 ∨ i = 21 ∨ i = 22 ∨ i = 23 ∨ i = 24 ∨ i = 25 ∨ i = 26 ∨ i = 27 ∨ i = 28 ∨ i = 29 ∨ i = 30 ∨ i = 31) with rfl | rfl | rfl | rfl | rfl | rfl | rfl | rfl | rfl | rfl | rfl | rfl | rfl | rfl | rfl | rfl | rfl | rfl | rfl | rfl | rfl | rfl | rfl | rfl | rfl | rfl | rfl | rfl | rfl | rfl | rfl | rfl
                · simp at ho
                  subst ho
                  clear hdep hA
                  go_simp
                  refine (AW2.out wb).mono ?_
                  rintro e w3 ⟨rfl, hb3⟩
                  exact hK _ w3 hb3 rfl
                · simp at ho
                  subst ho
                  have y0 : ac.tmps[69]?.getD undef = .bool true := hdep { on := 0, ground := .data } (by simp) rfl
                  clear hdep hA
                  go_simp
                  exact hK _ wb (Below.refl _ _) rfl
                · simp at ho
                  subst ho
                  clear hdep hA
                  go_simp
                  exact hK _ wb (Below.refl _ _) rfl
                · simp at ho
                  subst ho
                  clear hdep hA
                  go_simp
                  exact hK _ wb (Below.refl _ _) rfl
                · simp at ho
                  subst ho
                  clear hdep hA
                  go_simp
                  exact hK _ wb (Below.refl _ _) rfl
                · simp at ho
                  subst ho
                  have y2 : ac.tmps[71]?.getD undef = .agg #[.int .i64 k, .bool b, .int .i64 n, .string s, .slice la ll lc, .slice ma ml mc] := hdep { on := 2, ground := .data } (by simp) rfl
                  have y3 : ac.tmps[72]?.getD undef = .agg #[.int .i64 k2, .bool b2, .int .i64 n2, .string s2, .slice la2 ll2 lc2, .slice ma2 ml2 mc2] := hdep { on := 3, ground := .data } (by simp) rfl
                  have y4 : ac.tmps[73]?.getD undef = .slice (some ⟨sb, so, none⟩) ks.length sc := hdep { on := 4, ground := .data } (by simp) rfl
                  clear hdep hA
                  go_simp
                  refine (PU1.out wb (bstep HWU.out hB HWU.out.size)).mono ?_
                  rintro e w3 ⟨ds, rfl, hL, hb3⟩
                  exact hK _ w3 hb3 ⟨ds, rfl, hL.weaken fun _ _ => trivial⟩
                · simp at ho
                  subst ho
                  clear hdep hA
                  go_simp
                  exact hK _ wb (Below.refl _ _) rfl
                · simp at ho
                  subst ho
                  clear hdep hA
                  go_simp
                  exact hK _ wb (Below.refl _ _) rfl
                · simp at ho
                  subst ho
                  have y7 : ac.tmps[76]?.getD undef = .slice (some ⟨sb, so, none⟩) ks.length sc := hdep { on := 7, ground := .data } (by simp) rfl
                  clear hdep hA
                  go_simp
                  exact hK _ wb (Below.refl _ _) rfl
                · simp at ho
                  subst ho
                  have y8 : ac.tmps[77]?.getD undef = .pointer (some ⟨sb, so, none⟩) := hdep { on := 8, ground := .data } (by simp) rfl
                  clear hdep hA
                  go_simp
                  exact hK _ wb (Below.refl _ _) rfl
                · simp at ho
                  subst ho
                  clear hdep hA
                  go_simp
                  exact hK _ wb (Below.refl _ _) rfl
                · simp at ho
                  subst ho
                  clear hdep hA
                  go_simp
                  exact hK _ wb (Below.refl _ _) rfl
                · simp at ho
                  subst ho
                  clear hdep hA
                  go_simp
                  exact hK _ wb (Below.refl _ _) rfl
                · simp at ho
                  subst ho
                  have y12 : ac.tmps[81]?.getD undef = .slice (some ⟨sb, so, none⟩) ks.length sc := hdep { on := 12, ground := .data } (by simp) rfl
                  clear hdep hA
                  go_simp
                  exact hK _ wb (Below.refl _ _) rfl
                · simp at ho
                  subst ho
                  have y10 : ac.tmps[79]?.getD undef = .agg #[.int .i64 p0, .bool p1, .int .i64 p2, .string p3, .slice p4 p4l p4c, .slice p5 p5l p5c] := hdep { on := 10, ground := .data } (by simp) rfl
                  have y11 : ac.tmps[80]?.getD undef = .agg #[.int .i64 k2, .bool b2, .int .i64 n2, .string s2, .slice la2 ll2 lc2, .slice ma2 ml2 mc2] := hdep { on := 11, ground := .data } (by simp) rfl
                  have y13 : ac.tmps[82]?.getD undef = .slice (some ⟨sb, so + 1, none⟩) (ks.length - 1) (sc - 1) := hdep { on := 13, ground := .data } (by simp) rfl
                  clear hdep hA
                  go_simp
                  refine (PU2.out wb hB).mono ?_
                  rintro e w3 ⟨ds, rfl, hL, hb3⟩
                  exact hK _ w3 hb3 ⟨ds, rfl, hL.weaken fun _ _ => trivial⟩
                · simp at ho
                  subst ho
                  have y6 : ac.tmps[75]?.getD undef = .agg #[.int .i64 k, .bool b, .int .i64 n, .string s, .slice la ll lc, .slice ma ml mc] := hdep { on := 6, ground := .data } (by simp) rfl
                  have y9 : ac.tmps[78]?.getD undef = .string ks[0] := hdep { on := 9, ground := .data } (by simp) rfl
                  obtain ⟨dsy14, y14, hLy14⟩ := hdep { on := 14, ground := .data } (by simp) rfl
                  obtain ⟨j0, j1, j2, j3, j4, j4l, j4c, j5, j5l, j5c, rfl⟩ := hLy14.six
                  have y14 : ac.tmps[83]?.getD undef = _ := y14
                  clear hdep hA
                  go_simp
                  refine (tPut_any (H1.out.later (bstep HWU.out hB HWU.out.size)) hLy14 ks[0] hkz hbigt wb (Below.refl _ _)).mono ?_
                  rintro e w3 ⟨ds, rfl, hL, hb3⟩
                  exact hK _ w3 hb3 ⟨ds, rfl, hL.weaken fun _ _ => trivial⟩
                · simp at ho
                  subst ho
                  obtain ⟨dsy5, y5, hLy5⟩ := hdep { on := 5, ground := .data } (by simp) rfl
                  obtain ⟨d0, d1, d2, d3, d4, d4l, d4c, d5, d5l, d5c, rfl⟩ := hLy5.six
                  have y5 : ac.tmps[74]?.getD undef = _ := y5
                  obtain ⟨dsy15, y15, hLy15⟩ := hdep { on := 15, ground := .data } (by simp) rfl
                  obtain ⟨m0, m1, m2, m3, m4, m4l, m4c, m5, m5l, m5c, rfl⟩ := hLy15.six
                  have y15 : ac.tmps[84]?.getD undef = _ := y15
                  clear hdep hA
                  go_simp
                  have hsm := rSame_any hLy5 hLy15 wb (Below.refl _ _)
                  rw [HPX.out, T.same_self] at hsm
                  refine hsm.mono ?_
                  rintro e w3 ⟨rfl, hb3⟩
                  exact hK _ w3 hb3 rfl
                · simp at ho
                  subst ho
                  have y1 : ac.tmps[70]?.getD undef = .bool true := hdep { on := 1, ground := .data } (by simp) rfl
                  have y16 : ac.tmps[85]?.getD undef = .bool true := hdep { on := 16, ground := .data } (by simp) rfl
                  clear hdep hA
                  go_simp
                  exact hK _ wb (Below.refl _ _) rfl
                · simp at ho
                  subst ho
                  have y17 : ac.tmps[86]?.getD undef = .bool true := hdep { on := 17, ground := .data } (by simp) rfl
                  clear hdep hA
                  go_simp
                  exact hK _ wb (Below.refl _ _) rfl
                · simp at ho
                  subst ho
                  clear hdep hA
                  go_simp
                  exact hK _ wb (Below.refl _ _) rfl
                · simp at ho
                  subst ho
                  clear hdep hA
                  go_simp
                  exact hK _ wb (Below.refl _ _) rfl
                · simp at ho
                  subst ho
                  have y20 : ac.tmps[89]?.getD undef = .slice (some ⟨sb, so, none⟩) ks.length sc := hdep { on := 20, ground := .data } (by simp) rfl
                  clear hdep hA
                  go_simp
                  exact hK _ wb (Below.refl _ _) rfl
                · simp at ho
                  subst ho
                  have y19 : ac.tmps[88]?.getD undef = .slice (some ⟨sb, so, none⟩) ks.length sc := hdep { on := 19, ground := .data } (by simp) rfl
                  have y21 : ac.tmps[90]?.getD undef = .slice (some ⟨sb, so, none⟩) 1 sc := hdep { on := 21, ground := .data } (by simp) rfl
                  clear hdep hA
                  go_simp
                  refine (BG1.out wb (bstep HWU.out hB HWU.out.size)).mono ?_
                  rintro e w3 ⟨rfl, hb3⟩
                  exact hK _ w3 hb3 rfl
                · simp at ho
                  subst ho
                  have y18 : ac.tmps[87]?.getD undef = .bool true := hdep { on := 18, ground := .data } (by simp) rfl
                  have y22 : ac.tmps[91]?.getD undef = .bool true := hdep { on := 22, ground := .data } (by simp) rfl
                  clear hdep hA
                  go_simp
                  exact hK _ wb (Below.refl _ _) rfl
                · simp at ho
                  subst ho
                  have y23 : ac.tmps[92]?.getD undef = .bool true := hdep { on := 23, ground := .data } (by simp) rfl
                  clear hdep hA
                  go_simp
                  exact hK _ wb (Below.refl _ _) rfl
                · simp at ho
                  subst ho
                  clear hdep hA
                  go_simp
                  exact hK _ wb (Below.refl _ _) rfl
                · simp at ho
                  subst ho
                  have y25 : ac.tmps[94]?.getD undef = .slice (some ⟨sb, so, none⟩) ks.length sc := hdep { on := 25, ground := .data } (by simp) rfl
                  clear hdep hA
                  go_simp
                  exact hK _ wb (Below.refl _ _) rfl
                · simp at ho
                  subst ho
                  clear hdep hA
                  go_simp
                  exact hK _ wb (Below.refl _ _) rfl
                · simp at ho
                  subst ho
                  have y26 : ac.tmps[95]?.getD undef = .slice (some ⟨sb, so, none⟩) 1 sc := hdep { on := 26, ground := .data } (by simp) rfl
                  have y27 : ac.tmps[96]?.getD undef = .slice (some ⟨sb, so, none⟩) ks.length sc := hdep { on := 27, ground := .data } (by simp) rfl
                  clear hdep hA
                  go_simp
                  refine (BG2.out wb (bstep HWU.out hB HWU.out.size)).mono ?_
                  rintro e w3 ⟨rfl, hb3⟩
                  exact hK _ w3 hb3 rfl
                · simp at ho
                  subst ho
                  have y28 : ac.tmps[97]?.getD undef = .bool false := hdep { on := 28, ground := .data } (by simp) rfl
                  clear hdep hA
                  go_simp
                  exact hK _ wb (Below.refl _ _) rfl
                · simp at ho
                  subst ho
                  have y24 : ac.tmps[93]?.getD undef = .bool true := hdep { on := 24, ground := .data } (by simp) rfl
                  have y29 : ac.tmps[98]?.getD undef = .bool true := hdep { on := 29, ground := .data } (by simp) rfl
                  clear hdep hA
                  go_simp
                  exact hK _ wb (Below.refl _ _) rfl
                · simp at ho
                  subst ho
                  have y30 : ac.tmps[99]?.getD undef = .bool true := hdep { on := 30, ground := .data } (by simp) rfl
                  clear hdep hA
                  go_simp
                  exact hK _ wb (Below.refl _ _) rfl
              case s5 =>
                intro ac wn hA hB hU
                have hs : slots 32 (fun i => match i with | 0 => 69 | 1 => 70 | 2 => 71 | 3 => 72 | 4 => 73 | 5 => 74 | 6 => 75 | 7 => 76 | 8 => 77 | 9 => 78 | 10 => 79 | 11 => 80 | 12 => 81 | 13 => 82 | 14 => 83 | 15 => 84 | 16 => 85 | 17 => 86 | 18 => 87 | 19 => 88 | 20 => 89 | 21 => 90 | 22 => 91 | 23 => 92 | 24 => 93 | 25 => 94 | 26 => 95 | 27 => 96 | 28 => 97 | 29 => 98 | 30 => 99 | 31 => 6 | _ => 0) = [69, 70, 71, 72, 73, 74, 75, 76, 77, 78, 79, 80, 81, 82, 83, 84, 85, 86, 87, 88, 89, 90, 91, 92, 93, 94, 95, 96, 97, 98, 99, 6] := by rfl
                rw [hs] at hA
                have hac := hA.act (fun t ht => by
                  have h8 : t = 69 ∨ t = 70 ∨ t = 71 ∨ t = 72 ∨ t = 73 ∨ t = 74 ∨ t = 75 ∨ t = 76 ∨ t = 77 ∨ t = 78 ∨ t = 79 ∨ t = 80 ∨ t = 81 ∨ t = 82 ∨ t = 83 ∨ t = 84 ∨ t = 85 ∨ t = 86 ∨ t = 87 ∨ t = 88 ∨ t = 89 ∨ t = 90 ∨ t = 91 ∨ t = 92 ∨ t = 93 ∨ t = 94 ∨ t = 95 ∨ t = 96 ∨ t = 97 ∨ t = 98 ∨ t = 99 ∨ t = 6 := by simpa using ht
                  rcases h8 with rfl | rfl | rfl | rfl | rfl | rfl | rfl | rfl | rfl | rfl | rfl | rfl | rfl | rfl | rfl | rfl | rfl | rfl | rfl | rfl | rfl | rfl | rfl | rfl | rfl | rfl | rfl | rfl | rfl | rfl | rfl | rfl <;> exact Nat.lt_of_lt_of_le (by decide : _ < 100) (Nat.le_refl 100))
                rw [List.foldl_cons, List.foldl_cons, List.foldl_cons, List.foldl_cons, List.foldl_cons, List.foldl_cons, List.foldl_cons, List.foldl_cons, List.foldl_cons, List.foldl_cons, List.foldl_cons, List.foldl_cons, List.foldl_cons, List.foldl_cons, List.foldl_cons, List.foldl_cons, List.foldl_cons, List.foldl_cons, List.foldl_cons, List.foldl_cons, List.foldl_cons, List.foldl_cons, List.foldl_cons, List.foldl_cons, List.foldl_cons, List.foldl_cons, List.foldl_cons, List.foldl_cons, List.foldl_cons, List.foldl_cons, List.foldl_cons, List.foldl_cons, List.foldl_nil] at hac
                obtain ⟨y31⟩ : sl ac 6 = .bool true ∧ True := ⟨hU 31 (by omega), trivial⟩
                rw [y31] at hac
                generalize sl ac 69 = x69 at hac
                generalize sl ac 70 = x70 at hac
                generalize sl ac 71 = x71 at hac
                generalize sl ac 72 = x72 at hac
                generalize sl ac 73 = x73 at hac
                generalize sl ac 74 = x74 at hac
                generalize sl ac 75 = x75 at hac
                generalize sl ac 76 = x76 at hac
                generalize sl ac 77 = x77 at hac
                generalize sl ac 78 = x78 at hac
                generalize sl ac 79 = x79 at hac
                generalize sl ac 80 = x80 at hac
                generalize sl ac 81 = x81 at hac
                generalize sl ac 82 = x82 at hac
                generalize sl ac 83 = x83 at hac
                generalize sl ac 84 = x84 at hac
                generalize sl ac 85 = x85 at hac
                generalize sl ac 86 = x86 at hac
                generalize sl ac 87 = x87 at hac
                generalize sl ac 88 = x88 at hac
                generalize sl ac 89 = x89 at hac
                generalize sl ac 90 = x90 at hac
                generalize sl ac 91 = x91 at hac
                generalize sl ac 92 = x92 at hac
                generalize sl ac 93 = x93 at hac
                generalize sl ac 94 = x94 at hac
                generalize sl ac 95 = x95 at hac
                generalize sl ac 96 = x96 at hac
                generalize sl ac 97 = x97 at hac
                generalize sl ac 98 = x98 at hac
                generalize sl ac 99 = x99 at hac
                clear hA hs hU y31
                subst hac
                simp only [Act.put, List.setIfInBounds_toArray, List.set_cons_succ, List.set_cons_zero]
                go_wp2_with fail
                go_ret
                exact ⟨rfl, bstep HWU.out hB HWU.out.size⟩

end Go.Proofs.Ytnfmmgbghbaecaa
