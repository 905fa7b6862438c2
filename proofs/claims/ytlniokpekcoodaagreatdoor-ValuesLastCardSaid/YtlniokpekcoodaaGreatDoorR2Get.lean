/-
  The path reference's Get.
-/
import Derived.Test.YtlniokpekcoodaaGreatDoorRCompareM
import Derived.Test.YtlniokpekcoodaaGreatDoorPathGM
set_option linter.unusedVariables false
set_option linter.unusedSimpArgs false
namespace Go.Proofs.YtlniokpekcoodaaGreatDoor
open Go.RowKit Go.Sort

/-- What the reference finds at a path. -/
def getQ : List ByteArray → T → Option T
  | [], t => some t
  | k :: r, t => (findR k t.map).bind (getQ r)

set_option maxRecDepth 100000 in
set_option maxHeartbeats 2000000 in
theorem r2Get_any {w0 : World} {R : Nat → Prop} {t : T} {cs : Array Value} {ks : List ByteArray} {sa : Option Addr} {sc : Nat} (h : Lies w0 R t cs) (hS : SliceS w0 ks sa sc) (w : World) (hw : Below w0.heap.size w0 w) :
    Calls Tryz.prog 22 #[.agg cs, .slice sa ks.length sc] w (RGot w0 R w (getQ ks t)) := by
  have H := Lib.hid h
  have HS := Lib.hid hS
  have ll := hS.le
  have lx := hS.big
  obtain ⟨k, b, n, s, la, ll2, lc, ma, ml, mc, rfl⟩ := h.six
  clear h hS
  have hz := w.heap.size
  obtain ⟨dd, hu, hdd⟩ := Tryz.structV
  have DD := Lib.hid hdd
  have HU := Lib.hid hu
  clear hdd hu
  have hq : ((w.alloc (.cells #[.int .i64 k, .bool b, .int .i64 n, .string s, .slice la ll2 lc, .slice ma ml mc] 25)).alloc (.cells zeroV 25)).heap.size = w.heap.size + 2 := by simp
  have hb1 := ((Below.refl w.heap.size w).alloc (Nat.le_refl _) (.cells #[.int .i64 k, .bool b, .int .i64 n, .string s, .slice la ll2 lc, .slice ma ml mc] 25)).alloc (by simp) (.cells zeroV 25)
  have b0 : Box6 ((w.alloc (.cells #[.int .i64 k, .bool b, .int .i64 n, .string s, .slice la ll2 lc, .slice ma ml mc] 25)).alloc (.cells zeroV 25)) w.heap.size #[.int .i64 k, .bool b, .int .i64 n, .string s, .slice la ll2 lc, .slice ma ml mc] := (Box6.new w _ _).later ((Below.refl (w.heap.size + 1) _).alloc (by simp) _) (by omega)
  have t0 : Thaw ((w.alloc (.cells #[.int .i64 k, .bool b, .int .i64 n, .string s, .slice la ll2 lc, .slice ma ml mc] 25)).alloc (.cells zeroV 25)) w.heap.size := (Thaw.new w _ _).later ((Below.refl (w.heap.size + 1) _).alloc (by simp) _) (by omega)
  have b1 := Box6.new (w.alloc (.cells #[.int .i64 k, .bool b, .int .i64 n, .string s, .slice la ll2 lc, .slice ma ml mc] 25)) zeroV 25
  have t1 := Thaw.new (w.alloc (.cells #[.int .i64 k, .bool b, .int .i64 n, .string s, .slice la ll2 lc, .slice ma ml mc] 25)) zeroV 25
  rw [World.size_alloc] at b1 t1
  have HB1 := Lib.hid hb1
  have B0 := Lib.hid b0
  have T0 := Lib.hid t0
  have B1 := Lib.hid b1
  have T1 := Lib.hid t1
  have HQ := Lib.hid hq
  clear hb1 b0 t0 b1 t1 hz hq
  go_enter Tryz.func22, Tryz.ntmps22
  go_wp2_with fail
  have HW0 := Lib.hid (hw.size)
  go_loopw [6] (fun vi wr => ∃ (j : Nat) (cur : T) (ds : Array Value), j ≤ ks.length ∧ vi = .int .i64 j ∧ Hid (Lies wr (fun b => R b ∧ b < w0.heap.size) cur ds) ∧ Hid (getQ ks t = getQ (ks.drop j) cur) ∧ Hid (Box6 wr w.heap.size ds) ∧ Hid (Thaw wr w.heap.size) ∧ Hid (Box6 wr (w.heap.size + 1) zeroV) ∧ Hid (Thaw wr (w.heap.size + 1)) ∧ Below w.heap.size w wr ∧ w.heap.size + 2 ≤ wr.heap.size) (fun vi _ => ks.length - (intOf vi).toNat)
  case atStart => exact ⟨0, t, _, by omega, rfl, H.out.bound.later (bstep hw HB1.out hw.size), rfl, B0, T0, B1, T1, HB1.out, by rw [HQ.out]; exact Nat.le_refl _⟩
  case round =>
    obtain ⟨j, cur, ds, hj, rfl, HL, HA, HX, HT, HZ, HTZ, hbw, hsz⟩ := hrel
    obtain ⟨d0, d1, d2, d3, d4, d4l, d4c, d5, d5l, d5c, rfl⟩ := HL.out.six
    have hbr := bstep hw hbw hw.size
    have HBR := Lib.hid hbw
    have hw0 := HW0.out
    by_cases hjl : j < ks.length
    · obtain ⟨sb, so, rfl, kc⟩ := HS.out.at hbr hjl
      have hsbw : sb < w.heap.size := by
        have h0 : sb < w0.heap.size := World.block_lt_of_cell? _ _ (HS.out.cell j hjl sb so rfl)
        omega
      have hat : getQ ks t = ((findR ks[j] cur.map).bind (getQ (ks.drop (j + 1)))) := by
        rw [HA.out, List.drop_eq_getElem_cons hjl, getQ]
      have HAT := Lib.hid hat
      have KC := Lib.hid kc
      have GT := Lib.hid (fun w' (hw' : Below wr.heap.size wr w') => rGet_any HL.out ks[j] w' hw')
      have SK : Hid (∀ wx : World, Below wr.heap.size wr wx → wx.cell? ⟨w.heap.size, 0, none⟩ = some (.int .i64 d0) ∧ wx.cell? ⟨w.heap.size, 1, none⟩ = some (.bool d1) ∧ wx.cell? ⟨w.heap.size, 2, none⟩ = some (.int .i64 d2) ∧ wx.cell? ⟨w.heap.size, 3, none⟩ = some (.string d3) ∧ wx.cell? ⟨w.heap.size, 4, none⟩ = some (.slice d4 d4l d4c) ∧ wx.cell? ⟨w.heap.size, 5, none⟩ = some (.slice d5 d5l d5c) ∧ wx.cell? ⟨sb, so + j, none⟩ = some (.string ks[j])) := fun wx hx => by
        obtain ⟨q0, q1, q2, q3, q4, q5⟩ := (HX.out.later hx (by omega)).six
        exact ⟨q0, q1, q2, q3, q4, q5, cells_frame hx KC.out⟩
      have SKC : ∀ (wx : World) (g : Nat) (v0 v1 v2 v3 v4 v5 : Value) (bb j : Nat), g ≠ bb → ((((((wx.setCell ⟨g, 0, none⟩ v0).setCell ⟨g, 1, none⟩ v1).setCell ⟨g, 2, none⟩ v2).setCell ⟨g, 3, none⟩ v3).setCell ⟨g, 4, none⟩ v4).setCell ⟨g, 5, none⟩ v5).cell? ⟨bb, j, none⟩ = wx.cell? ⟨bb, j, none⟩ := fun wx g v0 v1 v2 v3 v4 v5 bb j hg => by
        rw [World.cell?_setCell_other _ _ _ _ (by intro e; have := congrArg Addr.block e; simp only at this; omega), World.cell?_setCell_other _ _ _ _ (by intro e; have := congrArg Addr.block e; simp only at this; omega), World.cell?_setCell_other _ _ _ _ (by intro e; have := congrArg Addr.block e; simp only at this; omega), World.cell?_setCell_other _ _ _ _ (by intro e; have := congrArg Addr.block e; simp only at this; omega), World.cell?_setCell_other _ _ _ _ (by intro e; have := congrArg Addr.block e; simp only at this; omega), World.cell?_setCell_other _ _ _ _ (by intro e; have := congrArg Addr.block e; simp only at this; omega)]
      have SK2 : Hid (∀ (wx : World) (g : Nat) (v0 v1 v2 v3 v4 v5 : Value), g ≠ w.heap.size → g ≠ sb → wx.cell? ⟨w.heap.size, 0, none⟩ = some (.int .i64 d0) ∧ wx.cell? ⟨w.heap.size, 1, none⟩ = some (.bool d1) ∧ wx.cell? ⟨w.heap.size, 2, none⟩ = some (.int .i64 d2) ∧ wx.cell? ⟨w.heap.size, 3, none⟩ = some (.string d3) ∧ wx.cell? ⟨w.heap.size, 4, none⟩ = some (.slice d4 d4l d4c) ∧ wx.cell? ⟨w.heap.size, 5, none⟩ = some (.slice d5 d5l d5c) ∧ wx.cell? ⟨sb, so + j, none⟩ = some (.string ks[j]) → ((((((wx.setCell ⟨g, 0, none⟩ v0).setCell ⟨g, 1, none⟩ v1).setCell ⟨g, 2, none⟩ v2).setCell ⟨g, 3, none⟩ v3).setCell ⟨g, 4, none⟩ v4).setCell ⟨g, 5, none⟩ v5).cell? ⟨w.heap.size, 0, none⟩ = some (.int .i64 d0) ∧ ((((((wx.setCell ⟨g, 0, none⟩ v0).setCell ⟨g, 1, none⟩ v1).setCell ⟨g, 2, none⟩ v2).setCell ⟨g, 3, none⟩ v3).setCell ⟨g, 4, none⟩ v4).setCell ⟨g, 5, none⟩ v5).cell? ⟨w.heap.size, 1, none⟩ = some (.bool d1) ∧ ((((((wx.setCell ⟨g, 0, none⟩ v0).setCell ⟨g, 1, none⟩ v1).setCell ⟨g, 2, none⟩ v2).setCell ⟨g, 3, none⟩ v3).setCell ⟨g, 4, none⟩ v4).setCell ⟨g, 5, none⟩ v5).cell? ⟨w.heap.size, 2, none⟩ = some (.int .i64 d2) ∧ ((((((wx.setCell ⟨g, 0, none⟩ v0).setCell ⟨g, 1, none⟩ v1).setCell ⟨g, 2, none⟩ v2).setCell ⟨g, 3, none⟩ v3).setCell ⟨g, 4, none⟩ v4).setCell ⟨g, 5, none⟩ v5).cell? ⟨w.heap.size, 3, none⟩ = some (.string d3) ∧ ((((((wx.setCell ⟨g, 0, none⟩ v0).setCell ⟨g, 1, none⟩ v1).setCell ⟨g, 2, none⟩ v2).setCell ⟨g, 3, none⟩ v3).setCell ⟨g, 4, none⟩ v4).setCell ⟨g, 5, none⟩ v5).cell? ⟨w.heap.size, 4, none⟩ = some (.slice d4 d4l d4c) ∧ ((((((wx.setCell ⟨g, 0, none⟩ v0).setCell ⟨g, 1, none⟩ v1).setCell ⟨g, 2, none⟩ v2).setCell ⟨g, 3, none⟩ v3).setCell ⟨g, 4, none⟩ v4).setCell ⟨g, 5, none⟩ v5).cell? ⟨w.heap.size, 5, none⟩ = some (.slice d5 d5l d5c) ∧ ((((((wx.setCell ⟨g, 0, none⟩ v0).setCell ⟨g, 1, none⟩ v1).setCell ⟨g, 2, none⟩ v2).setCell ⟨g, 3, none⟩ v3).setCell ⟨g, 4, none⟩ v4).setCell ⟨g, 5, none⟩ v5).cell? ⟨sb, so + j, none⟩ = some (.string ks[j])) := fun wx g v0 v1 v2 v3 v4 v5 hg hg2 h => by
        simp only [SKC _ _ _ _ _ _ _ _ _ _ hg, SKC _ _ _ _ _ _ _ _ _ _ hg2]
        exact h
      have REF : Hid (Below wr.heap.size wr wr) := Below.refl _ _
      clear SKC kc hat
      go_upto_region 4 with fail
      go_cut [7, 8] (fun p q wx => ∃ (g : Nat) (es : Array Value), p = .pointer (some ⟨g, 0, none⟩) ∧ q = .bool (findR ks[j] cur.map).isSome ∧ Hid (Box6 wx g es) ∧ Hid (Lies wx (fun b => R b ∧ b < w0.heap.size) ((findR ks[j] cur.map).getD T.nil) es) ∧ g < wx.heap.size ∧ wr.heap.size ≤ g ∧ Below wr.heap.size wr wx)
      case first =>
        go_region_held3 (fun wx : World => wx.cell? ⟨w.heap.size, 0, none⟩ = some (.int .i64 d0) ∧ wx.cell? ⟨w.heap.size, 1, none⟩ = some (.bool d1) ∧ wx.cell? ⟨w.heap.size, 2, none⟩ = some (.int .i64 d2) ∧ wx.cell? ⟨w.heap.size, 3, none⟩ = some (.string d3) ∧ wx.cell? ⟨w.heap.size, 4, none⟩ = some (.slice d4 d4l d4c) ∧ wx.cell? ⟨w.heap.size, 5, none⟩ = some (.slice d5 d5l d5c) ∧ wx.cell? ⟨sb, so + j, none⟩ = some (.string ks[j]))
          (first
            | with_reducible exact SK2.out _ _ _ _ _ _ _ _ (by omega) (by omega) (SK.out _ hV5)
            | with_reducible exact SK.out _ hV5
            | with_reducible exact SK.out _ (bbox hV5 _ hV5.size)
            | exact SK.out _ (Below.refl _ _).drew
            | exact SK.out _ (bbox (Below.refl _ _) _ (Nat.le_refl _)).drew
            | exact SK.out _ ((bbox (Below.refl _ _) _ (Nat.le_refl _)))
            | fail)
          (first
           | (go_at_call 34
              with_reducible refine (GT.out _ (REF.out.drew)).mono ?_
              rintro e w5 ⟨es, rfl, hL5, hb5⟩
              obtain ⟨e0, e1, e2, e3, e4, e4l, e4c, e5, e5l, e5c, rfl⟩ := hL5.six
              have hV5 : Below wr.heap.size wr w5 := undrew hb5
              have hs5 := hV5.size)
           | (go_at_call 34
              refine (GT.out _ (bbox REF.out (.cells zeroV 25) REF.out.size).drew).mono ?_
              rintro e w5 ⟨es, rfl, hL5, hb5⟩
              obtain ⟨e0, e1, e2, e3, e4, e4l, e4c, e5, e5l, e5c, rfl⟩ := hL5.six
              have hV5 : Below wr.heap.size wr w5 := bunbox (undrew hb5) (Nat.le_refl _) (by simp)
              have hs5 : wr.heap.size + 1 ≤ w5.heap.size := by have := hb5.size; simp only [World.size_drew, World.size_alloc] at this; omega
              have Z5 := Lib.hid ((Box6.new wr zeroV 25).later (undrew hb5) (by simp))
              obtain ⟨z0, z1, z2, z3, z4, z5⟩ := Z5.out.six
              obtain ⟨f0, f1, f2, f3, f4, f5⟩ := ((Thaw.new wr zeroV 25).later (undrew hb5) (by simp)).six))
        · go_wp2_with fail
          go_meet
          case rel => exact ⟨w5.heap.size, _, rfl, rfl, Box6.new w5 _ 25, (hL5.later ((Below.refl _ w5).alloc (Nat.le_refl _) _)).weaken (fun _ hq => hq.1), by simp, hs5, bbox hV5 _ hV5.size⟩
        · go_wp2_with fail
          go_meet
          case rel => exact ⟨wr.heap.size, _, rfl, rfl, Z5.out.store rfl _ _ _ _ _ _, (hL5.keep (w' := setRow w5 wr.heap.size 0 [.int .i64 e0, .bool e1, .int .i64 e2, .string e3, .slice e4 e4l e4c, .slice e5 e5l e5c]) (fun bb hb => setRow_heap _ _ _ _ _ (by have := hb.2; omega))).weaken (fun _ hq => hq.1), by show _ < (setRow w5 wr.heap.size 0 [.int .i64 e0, .bool e1, .int .i64 e2, .string e3, .slice e4 e4l e4c, .slice e5 e5l e5c]).heap.size; rw [setRow_size]; omega, Nat.le_refl _, setRow_below wr.heap.size (Nat.le_refl _) [.int .i64 e0, .bool e1, .int .i64 e2, .string e3, .slice e4 e4l e4c, .slice e5 e5l e5c] w5 0 hV5⟩
      case rest =>
        obtain ⟨g1, es, rfl, rfl, HG1, HL1, hg1, hgw, hb3⟩ := hcut
        obtain ⟨w3, rfl⟩ : ∃ w3 : World, w3 = wc := ⟨_, rfl⟩
        obtain ⟨e0, e1, e2, e3, e4, e4l, e4c, e5, e5l, e5c, rfl⟩ := HL1.out.six
        have HX3 := Lib.hid (HX.out.later hb3 (by omega))
        have HT3 := Lib.hid (HT.out.later hb3 (by omega))
        have HZ3 := Lib.hid (HZ.out.later hb3 (by omega))
        have HTZ3 := Lib.hid (HTZ.out.later hb3 (by omega))
        have HB4 := Lib.hid (bstep HBR.out hb3 HBR.out.size)
        have hs3 := hb3.size
        clear hb3 hbw hbr GT SK SK2 KC REF
        cases hf : findR ks[j] cur.map with
        | none =>
          rw [hf] at HAT HL1
          have HAT2 : Hid (getQ ks t = none) := HAT.out
          obtain ⟨y0, y1, y2, y3, y4, y5⟩ := HZ3.out.six
          obtain ⟨g0, g2, g3, g4, g5, g6⟩ := HTZ3.out.six
          clear HAT HL1 hf
          go_wp2_with fail
          rw [HAT2.out]
          refine ret_cells_tmp w3 (w.heap.size + 1) [.int .i64 0, .bool false, .int .i64 0, .string ⟨#[]⟩, .slice none 0 0, .slice none 0 0] rfl Tryz.results22 rfl rfl DD.out HU.out Tryz.sizeV (fun i hi => ⟨_, (HZ3.out i hi).trans (Array.getElem?_eq_getElem (show i < 6 from hi))⟩) ?_
          exact ⟨_, rfl, nil_lies _ _, setRow_below _ (by omega) _ _ _ HB4.out⟩
        | some u =>
          rw [hf] at HAT HL1
          have HAT2 : Hid (getQ ks t = getQ (ks.drop (j + 1)) u) := HAT.out
          have HL2 : Hid (Lies w3 (fun b => R b ∧ b < w0.heap.size) u #[.int .i64 e0, .bool e1, .int .i64 e2, .string e3, .slice e4 e4l e4c, .slice e5 e5l e5c]) := HL1
          obtain ⟨z0, z1, z2, z3, z4, z5⟩ := HX3.out.six
          obtain ⟨f0, f1, f2, f3, f4, f5⟩ := HT3.out.six
          obtain ⟨q0, q1, q2, q3, q4, q5⟩ := HG1.out.six
          clear HAT HL1 hf
          go_upto_region 3 with fail
          show Code.wp _ _ _ _ (setRow w3 w.heap.size 0 [.int .i64 e0, .bool e1, .int .i64 e2, .string e3, .slice e4 e4l e4c, .slice e5 e5l e5c])
          have hl4 := HL2.out.keep (w' := setRow w3 w.heap.size 0 [.int .i64 e0, .bool e1, .int .i64 e2, .string e3, .slice e4 e4l e4c, .slice e5 e5l e5c]) (fun b hb => setRow_heap _ _ _ _ _ (by have := hb.2; omega))
          have hx4 := HX3.out.store rfl (.int .i64 e0) (.bool e1) (.int .i64 e2) (.string e3) (.slice e4 e4l e4c) (.slice e5 e5l e5c)
          have hu4 := HT3.out.store (g2 := w.heap.size) [.int .i64 e0, .bool e1, .int .i64 e2, .string e3, .slice e4 e4l e4c, .slice e5 e5l e5c] 0
          have hz4 := HZ3.out.other (g2 := w.heap.size) (by omega) [.int .i64 e0, .bool e1, .int .i64 e2, .string e3, .slice e4 e4l e4c, .slice e5 e5l e5c] 0
          have ht4 := HTZ3.out.store (g2 := w.heap.size) [.int .i64 e0, .bool e1, .int .i64 e2, .string e3, .slice e4 e4l e4c, .slice e5 e5l e5c] 0
          have hb5 := setRow_below w.heap.size (Nat.le_refl _) [.int .i64 e0, .bool e1, .int .i64 e2, .string e3, .slice e4 e4l e4c, .slice e5 e5l e5c] _ 0 HB4.out
          have hs5 : w.heap.size + 2 ≤ (setRow w3 w.heap.size 0 [.int .i64 e0, .bool e1, .int .i64 e2, .string e3, .slice e4 e4l e4c, .slice e5 e5l e5c]).heap.size := by rw [setRow_size]; omega
          generalize setRow w3 w.heap.size 0 [.int .i64 e0, .bool e1, .int .i64 e2, .string e3, .slice e4 e4l e4c, .slice e5 e5l e5c] = W4 at hl4 hz4 ht4 hb5 hx4 hu4 hs5 ⊢
          have HL4 := Lib.hid hl4
          have HZ4 := Lib.hid hz4
          have HT4 := Lib.hid ht4
          have HX4 := Lib.hid hx4
          have HU4 := Lib.hid hu4
          have HB5 := Lib.hid hb5
          clear hl4 hz4 ht4 hx4 hu4 hb5 z0 z1 z2 z3 z4 z5 f0 f1 f2 f3 f4 f5 q0 q1 q2 q3 q4 q5
          go_wp2_with fail
          go_roundw
          case rel => exact ⟨j + 1, u, _, by omega, by go_num, HL4, HAT2, HX4, HU4, HZ4, HT4, HB5.out, hs5⟩
          case measure => simp [intOf]; omega
    · obtain rfl : j = ks.length := by omega
      have HAT : Hid (getQ ks t = some cur) := by show _ = _; rw [HA.out, List.drop_length]; rfl
      obtain ⟨x0, x1, x2, x3, x4, x5⟩ := HX.out.six
      obtain ⟨y0, y1, y2, y3, y4, y5⟩ := HZ.out.six
      obtain ⟨g0, g1, g2, g3, g4, g5⟩ := HTZ.out.six
      go_upto_region 8 with fail
      go_wp2_with fail
      rw [HAT.out]
      refine ret_cells_tmp wr (w.heap.size + 1) [.int .i64 d0, .bool d1, .int .i64 d2, .string d3, .slice d4 d4l d4c, .slice d5 d5l d5c] rfl Tryz.results22 rfl rfl DD.out HU.out Tryz.sizeV (fun i hi => ⟨_, (HZ.out i hi).trans (Array.getElem?_eq_getElem (show i < 6 from hi))⟩) ?_
      exact ⟨_, rfl, HL.out.keep (fun b hb => setRow_heap _ _ _ _ _ (by have := hb.2; omega)), setRow_below _ (by omega) _ _ _ hbw⟩

end Go.Proofs.YtlniokpekcoodaaGreatDoor
