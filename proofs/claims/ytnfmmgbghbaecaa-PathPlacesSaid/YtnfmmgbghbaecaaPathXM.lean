/-
  Package path's with, walked.
-/
import Derived.Test.YtnfmmgbghbaecaaMakesM
import Derived.Deep.DeepCutAuto
import Derived.Deep.RegionHeld3
import Derived.OrdersIn
import Derived.RangeFuncNested
import Derived.RangeFuncBound
import Derived.RangeFuncCalls
import Derived.RangeFuncLeaves
import Derived.Shelf.Abstract
import Derived.Shelf.RegionOpen
import Derived.WalkKit
import Derived.OwnWalkIn
import Derived.TacticsInMore
import Derived.LoopNIn
import Derived.LoopIn
set_option linter.unusedVariables false
set_option linter.unusedSimpArgs false
namespace Go.Proofs.Ytnfmmgbghbaecaa
open Go.RowKit

theorem three_new (w : World) (A B : Array Value) : Box6 (((w.alloc (.cells A 25)).alloc (.cells B 25)).alloc (.cells zeroV 25)) w.heap.size A ∧ Box6 (((w.alloc (.cells A 25)).alloc (.cells B 25)).alloc (.cells zeroV 25)) (w.heap.size + 1) B ∧ Box6 (((w.alloc (.cells A 25)).alloc (.cells B 25)).alloc (.cells zeroV 25)) (w.heap.size + 2) zeroV ∧
    Thaw (((w.alloc (.cells A 25)).alloc (.cells B 25)).alloc (.cells zeroV 25)) (w.heap.size + 2) ∧ Below w.heap.size w (((w.alloc (.cells A 25)).alloc (.cells B 25)).alloc (.cells zeroV 25)) ∧ (((w.alloc (.cells A 25)).alloc (.cells B 25)).alloc (.cells zeroV 25)).heap.size = w.heap.size + 3 := by
  have e1 : (w.alloc (.cells A 25)).heap.size = w.heap.size + 1 := by simp
  have e2 : ((w.alloc (.cells A 25)).alloc (.cells B 25)).heap.size = w.heap.size + 2 := by simp
  have b1 := Box6.new w A 25
  have b2 := Box6.new (w.alloc (.cells A 25)) B 25
  have b3 := Box6.new ((w.alloc (.cells A 25)).alloc (.cells B 25)) zeroV 25
  have t3 := Thaw.new ((w.alloc (.cells A 25)).alloc (.cells B 25)) zeroV 25
  have f1 := (Below.refl (w.heap.size + 1) (w.alloc (.cells A 25))).alloc (by omega) (.cells B 25)
  have f2 := (Below.refl (w.heap.size + 2) ((w.alloc (.cells A 25)).alloc (.cells B 25))).alloc (by omega) (.cells zeroV 25)
  rw [e1] at b2
  rw [e2] at b3 t3
  exact ⟨(b1.later f1 (by omega)).later f2 (by omega), b2.later f2 (by omega), b3, t3, (((Below.refl _ w).alloc (Nat.le_refl _) _).alloc (by simp) _).alloc (by simp; omega) _, by simp⟩

set_option maxRecDepth 100000 in
set_option maxHeartbeats 4000000 in
theorem with_any {w0 : World} {R RX : Nat → Prop} {t x : T} {cs es : Array Value} (h : Lies w0 R t cs) (w : World) (hx : Lies w RX x es) (key : ByteArray) (hkey : key.size ≤ 140737488355328) (hbig : (t.pairs.length + 1) * 104 ≤ 140737488355328) (hw : Below w0.heap.size w0 w) :
    Calls Try.prog 110 #[.agg cs, .string key, .agg es] w fun e w' => ∃ ds, e = .returned (.agg ds) ∧ Lies w' (fun b => (RX b ∧ b < w.heap.size) ∨ w.heap.size ≤ b) (t.put key x) ds ∧ Below w.heap.size w w' := by
  have H := Lib.hid h
  have HX := Lib.hid hx
  obtain ⟨k, b, n, s, la, ll, lc, ma, ml, mc, rfl⟩ := h.six
  obtain ⟨k2, b2, n2, s2, la2, ll2, lc2, ma2, ml2, mc2, rfl⟩ := hx.six
  obtain ⟨q1, q2, q3, q4, q5, q6⟩ := three_new w #[.int .i64 k, .bool b, .int .i64 n, .string s, .slice la ll lc, .slice ma ml mc] #[.int .i64 k2, .bool b2, .int .i64 n2, .string s2, .slice la2 ll2 lc2, .slice ma2 ml2 mc2]
  obtain ⟨dd, hu, hdd⟩ := Try.structV
  have DD := Lib.hid hdd
  have HU := Lib.hid hu
  clear hdd hu h hx
  go_enter Try.func110, Try.ntmps110
  go_upto_region 1 with fail
  generalize (((w.alloc (.cells #[.int .i64 k, .bool b, .int .i64 n, .string s, .slice la ll lc, .slice ma ml mc] 25)).alloc (.cells #[.int .i64 k2, .bool b2, .int .i64 n2, .string s2, .slice la2 ll2 lc2, .slice ma2 ml2 mc2] 25)).alloc (.cells zeroV 25)) = v at q1 q2 q3 q4 q5 q6 ⊢
  have hv := Lib.hid (bstep hw q5 hw.size)
  have HQ5 := Lib.hid q5
  have HQ2 := Lib.hid q2
  have HQ3 := Lib.hid q3
  have HQ4 := Lib.hid q4
  have HQ1 := Lib.hid q1
  have PU := Lib.hid (fun w' (hw' : Below w0.heap.size w0 w') => tPut_new H.out (nil_lies w0 R) key hkey hbig w' hw')
  have SK : Hid (∀ wx : World, Below v.heap.size v wx → wx.cell? ⟨w.heap.size, 0, none⟩ = some (.int .i64 k) ∧ wx.cell? ⟨w.heap.size, 1, none⟩ = some (.bool b) ∧ wx.cell? ⟨w.heap.size, 2, none⟩ = some (.int .i64 n) ∧ wx.cell? ⟨w.heap.size, 3, none⟩ = some (.string s) ∧ wx.cell? ⟨w.heap.size, 4, none⟩ = some (.slice la ll lc) ∧ wx.cell? ⟨w.heap.size, 5, none⟩ = some (.slice ma ml mc)) := fun wx hx => (HQ1.out.later hx (by omega)).six
  have SKC : ∀ (wx : World) (g : Nat) (v0 v1 v2 v3 v4 v5 : Value) (j : Nat), g ≠ w.heap.size → ((((((wx.setCell ⟨g, 0, none⟩ v0).setCell ⟨g, 1, none⟩ v1).setCell ⟨g, 2, none⟩ v2).setCell ⟨g, 3, none⟩ v3).setCell ⟨g, 4, none⟩ v4).setCell ⟨g, 5, none⟩ v5).cell? ⟨w.heap.size, j, none⟩ = wx.cell? ⟨w.heap.size, j, none⟩ := fun wx g v0 v1 v2 v3 v4 v5 j hg => by
    rw [World.cell?_setCell_other _ _ _ _ (by intro e; have := congrArg Addr.block e; simp only at this; omega), World.cell?_setCell_other _ _ _ _ (by intro e; have := congrArg Addr.block e; simp only at this; omega), World.cell?_setCell_other _ _ _ _ (by intro e; have := congrArg Addr.block e; simp only at this; omega), World.cell?_setCell_other _ _ _ _ (by intro e; have := congrArg Addr.block e; simp only at this; omega), World.cell?_setCell_other _ _ _ _ (by intro e; have := congrArg Addr.block e; simp only at this; omega), World.cell?_setCell_other _ _ _ _ (by intro e; have := congrArg Addr.block e; simp only at this; omega)]
  have SK2 : Hid (∀ (wx : World) (g : Nat) (v0 v1 v2 v3 v4 v5 : Value), g ≠ w.heap.size → wx.cell? ⟨w.heap.size, 0, none⟩ = some (.int .i64 k) ∧ wx.cell? ⟨w.heap.size, 1, none⟩ = some (.bool b) ∧ wx.cell? ⟨w.heap.size, 2, none⟩ = some (.int .i64 n) ∧ wx.cell? ⟨w.heap.size, 3, none⟩ = some (.string s) ∧ wx.cell? ⟨w.heap.size, 4, none⟩ = some (.slice la ll lc) ∧ wx.cell? ⟨w.heap.size, 5, none⟩ = some (.slice ma ml mc) → ((((((wx.setCell ⟨g, 0, none⟩ v0).setCell ⟨g, 1, none⟩ v1).setCell ⟨g, 2, none⟩ v2).setCell ⟨g, 3, none⟩ v3).setCell ⟨g, 4, none⟩ v4).setCell ⟨g, 5, none⟩ v5).cell? ⟨w.heap.size, 0, none⟩ = some (.int .i64 k) ∧ ((((((wx.setCell ⟨g, 0, none⟩ v0).setCell ⟨g, 1, none⟩ v1).setCell ⟨g, 2, none⟩ v2).setCell ⟨g, 3, none⟩ v3).setCell ⟨g, 4, none⟩ v4).setCell ⟨g, 5, none⟩ v5).cell? ⟨w.heap.size, 1, none⟩ = some (.bool b) ∧ ((((((wx.setCell ⟨g, 0, none⟩ v0).setCell ⟨g, 1, none⟩ v1).setCell ⟨g, 2, none⟩ v2).setCell ⟨g, 3, none⟩ v3).setCell ⟨g, 4, none⟩ v4).setCell ⟨g, 5, none⟩ v5).cell? ⟨w.heap.size, 2, none⟩ = some (.int .i64 n) ∧ ((((((wx.setCell ⟨g, 0, none⟩ v0).setCell ⟨g, 1, none⟩ v1).setCell ⟨g, 2, none⟩ v2).setCell ⟨g, 3, none⟩ v3).setCell ⟨g, 4, none⟩ v4).setCell ⟨g, 5, none⟩ v5).cell? ⟨w.heap.size, 3, none⟩ = some (.string s) ∧ ((((((wx.setCell ⟨g, 0, none⟩ v0).setCell ⟨g, 1, none⟩ v1).setCell ⟨g, 2, none⟩ v2).setCell ⟨g, 3, none⟩ v3).setCell ⟨g, 4, none⟩ v4).setCell ⟨g, 5, none⟩ v5).cell? ⟨w.heap.size, 4, none⟩ = some (.slice la ll lc) ∧ ((((((wx.setCell ⟨g, 0, none⟩ v0).setCell ⟨g, 1, none⟩ v1).setCell ⟨g, 2, none⟩ v2).setCell ⟨g, 3, none⟩ v3).setCell ⟨g, 4, none⟩ v4).setCell ⟨g, 5, none⟩ v5).cell? ⟨w.heap.size, 5, none⟩ = some (.slice ma ml mc)) := fun wx g v0 v1 v2 v3 v4 v5 hg h => by
    simp only [SKC _ _ _ _ _ _ _ _ _ hg]
    exact h
  clear SKC
  have hv3 : w.heap.size + 3 ≤ v.heap.size := by omega
  clear q1 q2 q3 q4 q5 q6
  go_cut [7] (fun p wx => ∃ (g : Nat) (a : Option Addr) (cap : Nat) (dl : Nat → Array Value), p = .pointer (some ⟨g, 0, none⟩) ∧ Hid (SliceP wx (fun b => w.heap.size + 3 ≤ b) (putR key T.nil t.pairs) a cap dl) ∧ Hid (OwnM wx (w.heap.size + 3) (putR key T.nil t.pairs) a dl) ∧ Hid (Box6 wx g #[.int .i64 5, .bool false, .int .i64 0, .string ⟨#[]⟩, .slice none 0 0, .slice a (putR key T.nil t.pairs).length cap]) ∧ Hid (∀ bl ol, a = some ⟨bl, ol, none⟩ → bl ≠ g) ∧ w.heap.size + 3 ≤ g ∧ g < wx.heap.size ∧ Below v.heap.size v wx)
  case first =>
    go_region_held3 (fun wx : World => wx.cell? ⟨w.heap.size, 0, none⟩ = some (.int .i64 k) ∧ wx.cell? ⟨w.heap.size, 1, none⟩ = some (.bool b) ∧ wx.cell? ⟨w.heap.size, 2, none⟩ = some (.int .i64 n) ∧ wx.cell? ⟨w.heap.size, 3, none⟩ = some (.string s) ∧ wx.cell? ⟨w.heap.size, 4, none⟩ = some (.slice la ll lc) ∧ wx.cell? ⟨w.heap.size, 5, none⟩ = some (.slice ma ml mc))
      (first
        | with_reducible exact SK2.out _ _ _ _ _ _ _ _ (by omega) (SK.out _ hV5)
        | with_reducible exact SK.out _ hV5
        | with_reducible exact SK.out _ (bbox hV5 _ hV5.size)
        | with_reducible exact SK.out _ hV4
        | with_reducible exact SK.out _ (bbox hV4 _ hV4.size)
        | exact SK.out _ (Below.refl _ _).drew
        | exact SK.out _ (bbox (Below.refl _ _) _ (Nat.le_refl _)).drew
        | exact SK.out _ ((bbox (Below.refl _ _) _ (Nat.le_refl _)))
        | fail)
      (first
        | (go_at_call 44
           refine (tNull_any _).mono ?_
           rintro e w4 ⟨rfl, hb4⟩
           first
           | (have hA : Below (v.alloc (.cells zeroV 25)).drew.heap.size (v.alloc (.cells zeroV 25)).drew w4 := by with_reducible exact hb4
              have hV4 : Below v.heap.size v w4 := bunbox (undrew hb4) (Nat.le_refl _) (by simp)
              have hs4 : v.heap.size + 1 ≤ w4.heap.size := by have := hb4.size; simp only [World.size_drew, World.size_alloc] at this; omega
              have Z4 := Lib.hid ((Box6.new v zeroV 25).later (undrew hb4) (by simp))
              have F4 := Lib.hid ((Thaw.new v zeroV 25).later (undrew hb4) (by simp))
              clear hA)
           | have hV4 : Below v.heap.size v w4 := undrew hb4)
        | (go_at_call 38
           first
           | (have hy := Z4
              refine (PU.out _ (bstep hv.out hV4 hv.out.size)).mono ?_
              rintro e w5 ⟨ds, rfl, ⟨a5, c5, dl5, rfl, hS5, hM5⟩, hb5⟩
              have hV5 : Below v.heap.size v w5 := bstep hV4 hb5 hV4.size
              have Z5 := Lib.hid (Z4.out.later hb5 (by omega))
              have hs5 := hb5.size
              obtain ⟨z0, z1, z2, z3, z4, z5⟩ := Z5.out.six
              obtain ⟨f0, f1, f2, f3, f4, f5⟩ := (F4.out.later hb5 (by omega)).six
)
           | (have hy := hV4
              with_reducible refine (PU.out _ (bstep hv.out hV4 hv.out.size)).mono ?_
              rintro e w5 ⟨ds, rfl, ⟨a5, c5, dl5, rfl, hS5, hM5⟩, hb5⟩
              have hV5 : Below v.heap.size v w5 := bstep hV4 hb5 hV4.size
              have hs4 := hV4.size
              have hs5 := hb5.size)
           | (have hy := hV4
              refine (PU.out _ (bbox (bstep hv.out hV4 hv.out.size) (.cells zeroV 25) (bstep hv.out hV4 hv.out.size).size)).mono ?_
              rintro e w5 ⟨ds, rfl, ⟨a5, c5, dl5, rfl, hS5, hM5⟩, hb5⟩
              have hV5 : Below v.heap.size v w5 := bstep hV4 (bunbox hb5 (Nat.le_refl _) (by simp)) hV4.size
              have hs4 := hV4.size
              have hs5 : w4.heap.size + 1 ≤ w5.heap.size := by have := hb5.size; simp only [World.size_alloc] at this; omega
              have Z5 := Lib.hid ((Box6.new w4 zeroV 25).later hb5 (by simp))
              obtain ⟨z0, z1, z2, z3, z4, z5⟩ := Z5.out.six
              obtain ⟨f0, f1, f2, f3, f4, f5⟩ := ((Thaw.new w4 zeroV 25).later hb5 (by simp)).six)))
    · go_wp2_with fail
      go_meet
      case rel =>
        exact ⟨w5.heap.size, a5, c5, dl5, rfl, (hS5.later ((Below.refl _ w5).alloc (Nat.le_refl _) _)).weaken (fun b hb => by omega), (hM5.keep (by simp) (fun b _ hlt => Below.heap_alloc _ _ _ hlt)).lower (by omega), Box6.new w5 _ 25, fun bl ol e => by have := (hM5.free bl ol e).2.1; omega, by omega, by simp, bbox hV5 _ hV5.size⟩
    · go_wp2_with fail
      go_meet
      case rel =>
        exact ⟨w4.heap.size, a5, c5, dl5, rfl, (hS5.keepB (w' := setRow w5 w4.heap.size 0 [.int .i64 5, .bool false, .int .i64 0, .string ⟨#[]⟩, .slice none 0 0, .slice a5 (putR key T.nil t.pairs).length c5]) (fun b hb _ => setRow_heap _ _ _ _ _ (by simp only [World.size_alloc] at hb; omega))).weaken (fun b hb => by simp only [World.size_alloc] at hb; omega),
          (hM5.keep (w' := setRow w5 w4.heap.size 0 [.int .i64 5, .bool false, .int .i64 0, .string ⟨#[]⟩, .slice none 0 0, .slice a5 (putR key T.nil t.pairs).length c5]) (by rw [setRow_size]; exact Nat.le_refl _) (fun b hb _ => setRow_heap _ _ _ _ _ (by simp only [World.size_alloc] at hb; omega))).lower (by simp only [World.size_alloc]; omega),
          Z5.out.store rfl _ _ _ _ _ _, fun bl ol e => by have := (hM5.free bl ol e).1; simp only [World.size_alloc] at this; omega, by omega, by show _ < (setRow w5 w4.heap.size 0 [.int .i64 5, .bool false, .int .i64 0, .string ⟨#[]⟩, .slice none 0 0, .slice a5 (putR key T.nil t.pairs).length c5]).heap.size; rw [setRow_size]; omega, setRow_below w4.heap.size hs4 [.int .i64 5, .bool false, .int .i64 0, .string ⟨#[]⟩, .slice none 0 0, .slice a5 (putR key T.nil t.pairs).length c5] w5 0 hV5⟩
    · go_wp2_with fail
      go_meet
      case rel =>
        exact ⟨v.heap.size, a5, c5, dl5, rfl, (hS5.keepB (w' := setRow w5 v.heap.size 0 [.int .i64 5, .bool false, .int .i64 0, .string ⟨#[]⟩, .slice none 0 0, .slice a5 (putR key T.nil t.pairs).length c5]) (fun b hb _ => setRow_heap _ _ _ _ _ (by omega))).weaken (fun b hb => by omega),
          (hM5.keep (w' := setRow w5 v.heap.size 0 [.int .i64 5, .bool false, .int .i64 0, .string ⟨#[]⟩, .slice none 0 0, .slice a5 (putR key T.nil t.pairs).length c5]) (by rw [setRow_size]; exact Nat.le_refl _) (fun b hb _ => setRow_heap _ _ _ _ _ (by omega))).lower (by omega),
          Z5.out.store rfl _ _ _ _ _ _, fun bl ol e => by have := (hM5.free bl ol e).1; omega, by omega, by show _ < (setRow w5 v.heap.size 0 [.int .i64 5, .bool false, .int .i64 0, .string ⟨#[]⟩, .slice none 0 0, .slice a5 (putR key T.nil t.pairs).length c5]).heap.size; rw [setRow_size]; omega, setRow_below v.heap.size (Nat.le_refl _) [.int .i64 5, .bool false, .int .i64 0, .string ⟨#[]⟩, .slice none 0 0, .slice a5 (putR key T.nil t.pairs).length c5] w5 0 hV5⟩
  case rest =>
    obtain ⟨g, a, cap, dl, rfl, HS, HM, HG, HN, hg3, hgl, hbv⟩ := hcut
    obtain ⟨u, rfl⟩ : ∃ u : World, u = wc := ⟨_, rfl⟩
    obtain ⟨j, hj, hix, hput, hat⟩ := putR_here key x T.nil t.pairs
    have hplen := HS.out.hdr.le
    have hpbig := HS.out.hdr.big
    obtain ⟨bl, ol, rfl, hblB⟩ := HS.out.hdr.some (by omega)
    obtain ⟨hf1, hf2, hf3⟩ := HM.out.free bl ol rfl
    have hrow := HS.out.rows j hj bl ol rfl
    have hkj := HS.out.keys j hj
    have hej := HM.out.each j hj bl ol rfl
    have hpj : (putR key T.nil t.pairs)[j] = (key, T.nil) := by rw [List.getElem?_eq_getElem hj] at hat; exact Option.some.inj hat
    rw [hpj] at hrow hkj hej
    obtain ⟨n0, n1, n2', n3, n4, n4l, n4c, n5, n5l, n5c, hdl⟩ := hej.six
    rw [hdl] at hrow
    obtain ⟨r0, r1, r2, r3, r4, r5, r6⟩ := Row.seven hrow
    obtain ⟨g0, g1, g2, g3, g4, g5⟩ := HG.out.six
    have PL := Lib.hid (place_any (R := fun b => w.heap.size + 3 ≤ b) (t := .mk 5 false 0 ⟨#[]⟩ [] (putR key T.nil t.pairs)) (w0 := u) (Lies.of_slices wfp5 wfp0 empty_sp (empty_sVp _ _) HS.out) key)
    have HX3 := Lib.hid (HQ2.out.later hbv (by omega))
    obtain ⟨x0, x1, x2, x3, x4, x5⟩ := HX3.out.six
    have hbn := HN.out bl ol rfl
    have hix2 : Hid (keyIx (putR key T.nil t.pairs) key = (j : Int)) := hix
    have hf3 := Lib.hid hf3
    have hput := Lib.hid hput
    have hat := Lib.hid hat
    clear hix hpj hdl hrow hkj
    go_upto_region 2 with fail
    refine wp_region_specs2 u 8 (fun i => 12 + i) (fun i x wx => match i with | 0 => x = .pointer (some ⟨g, 5, none⟩) | 1 => x = .slice (some ⟨bl, ol, none⟩) (putR key T.nil t.pairs).length cap | 2 => x = .agg #[.int .i64 5, .bool false, .int .i64 0, .string ⟨#[]⟩, .slice none 0 0, .slice (some ⟨bl, ol, none⟩) (putR key T.nil t.pairs).length cap] | 3 => x = .string key | 4 => x = .int .i64 j | 5 => x = .agg #[.int .i64 k2, .bool b2, .int .i64 n2, .string s2, .slice la2 ll2 lc2, .slice ma2 ml2 mc2] | 6 => x = .pointer (some ⟨bl, ol + j * 7, none⟩) | 7 => x = .pointer (some ⟨bl, ol + j * 7 + 1, none⟩) | _ => True) (fun _ wx => ∃ wb, Below u.heap.size u wb ∧ wx = setRow wb bl (ol + j * 7 + 1) [.int .i64 k2, .bool b2, .int .i64 n2, .string s2, .slice la2 ll2 lc2, .slice ma2 ml2 mc2]) (by kernel_rfl) (by kernel_rfl) ?s1 (Below.refl _ _) ?s2 ?s3 ?s4 ?s5
    case s1 => intro i hi; exact Nat.lt_of_lt_of_le (show 12 + i < 21 by omega) (Nat.le_refl 21)
    case s2 =>
      intro i x w1 w2 hb hU
      match i, hU with
      | 4, h => exact h
      | 0, h | 1, h | 2, h | 3, h | 5, h | 6, h | 7, h => exact h
      | (n + 8), _ => trivial
    case s3 =>
      intro i o ac wb K' ho hi hA hB hdep hK
      have s1 : ac.tmps[1]?.getD undef = .string key := hA.sl (t := 1) (by decide)
      have s5 : ac.tmps[5]?.getD undef = .pointer (some ⟨w.heap.size + 1, 0, none⟩) := hA.sl (t := 5) (by decide)
      have s7 : ac.tmps[7]?.getD undef = .pointer (some ⟨g, 0, none⟩) := hA.sl (t := 7) (by decide)
      have g0 := cells_frame hB g0
      have g1 := cells_frame hB g1
      have g2 := cells_frame hB g2
      have g3 := cells_frame hB g3
      have g4 := cells_frame hB g4
      have g5 := cells_frame hB g5
      have x0 := cells_frame hB x0
      have x1 := cells_frame hB x1
      have x2 := cells_frame hB x2
      have x3 := cells_frame hB x3
      have x4 := cells_frame hB x4
      have x5 := cells_frame hB x5
      have r0 := cells_frame hB r0
      have r1 := cells_frame hB r1
      have r2 := cells_frame hB r2
      have r3 := cells_frame hB r3
      have r4 := cells_frame hB r4
      have r5 := cells_frame hB r5
      have r6 := cells_frame hB r6
      rcases (by omega : i = 0 ∨ i = 1 ∨ i = 2 ∨ i = 3 ∨ i = 4 ∨ i = 5 ∨ i = 6 ∨ i = 7) with rfl | rfl | rfl | rfl | rfl | rfl | rfl | rfl
      · simp at ho
        subst ho
        clear hdep hA
        go_simp
        exact hK _ wb (Below.refl _ _) rfl
      · simp at ho
        subst ho
        have y0 : ac.tmps[12]?.getD undef = .pointer (some ⟨g, 5, none⟩) := hdep { on := 0, ground := .data } (by simp) rfl
        clear hdep hA
        go_simp
        exact hK _ wb (Below.refl _ _) rfl
      · simp at ho
        subst ho
        clear hdep hA
        go_simp
        exact hK _ wb (Below.refl _ _) rfl
      · simp at ho
        subst ho
        clear hdep hA
        go_simp
        exact hK _ wb (Below.refl _ _) rfl
      · simp at ho
        subst ho
        have y2 : ac.tmps[14]?.getD undef = .agg #[.int .i64 5, .bool false, .int .i64 0, .string ⟨#[]⟩, .slice none 0 0, .slice (some ⟨bl, ol, none⟩) (putR key T.nil t.pairs).length cap] := hdep { on := 2, ground := .data } (by simp) rfl
        have y3 : ac.tmps[15]?.getD undef = .string key := hdep { on := 3, ground := .data } (by simp) rfl
        clear hdep hA
        go_simp
        refine (PL.out wb hB).mono ?_
        rintro e w3 ⟨he, hb3⟩
        have he2 := he.trans (congrArg (fun q => Ending.returned (Value.int .i64 q)) hix2.out)
        subst he2
        exact hK _ w3 hb3 rfl
      · simp at ho
        subst ho
        clear hdep hA
        go_simp
        exact hK _ wb (Below.refl _ _) rfl
      · simp at ho
        subst ho
        have y1 : ac.tmps[13]?.getD undef = .slice (some ⟨bl, ol, none⟩) (putR key T.nil t.pairs).length cap := hdep { on := 1, ground := .data } (by simp) rfl
        have y4 : ac.tmps[16]?.getD undef = .int .i64 j := hdep { on := 4, ground := .data } (by simp) rfl
        clear hdep hA
        go_simp
        exact hK _ wb (Below.refl _ _) rfl
      · simp at ho
        subst ho
        have y6 : ac.tmps[18]?.getD undef = .pointer (some ⟨bl, ol + j * 7, none⟩) := hdep { on := 6, ground := .data } (by simp) rfl
        clear hdep hA
        go_simp
        exact hK _ wb (Below.refl _ _) rfl
    case s4 =>
      intro o ac wb K' ho hA hB hU hK
      have s1 : ac.tmps[1]?.getD undef = .string key := hA.sl (t := 1) (by decide)
      have s5 : ac.tmps[5]?.getD undef = .pointer (some ⟨w.heap.size + 1, 0, none⟩) := hA.sl (t := 5) (by decide)
      have s7 : ac.tmps[7]?.getD undef = .pointer (some ⟨g, 0, none⟩) := hA.sl (t := 7) (by decide)
      have g0 := cells_frame hB g0
      have g1 := cells_frame hB g1
      have g2 := cells_frame hB g2
      have g3 := cells_frame hB g3
      have g4 := cells_frame hB g4
      have g5 := cells_frame hB g5
      have x0 := cells_frame hB x0
      have x1 := cells_frame hB x1
      have x2 := cells_frame hB x2
      have x3 := cells_frame hB x3
      have x4 := cells_frame hB x4
      have x5 := cells_frame hB x5
      have r0 := cells_frame hB r0
      have r1 := cells_frame hB r1
      have r2 := cells_frame hB r2
      have r3 := cells_frame hB r3
      have r4 := cells_frame hB r4
      have r5 := cells_frame hB r5
      have r6 := cells_frame hB r6
      simp at ho
      subst ho
      have y7 : ac.tmps[19]?.getD undef = .pointer (some ⟨bl, ol + j * 7 + 1, none⟩) := hU 7 (by omega)
      have y5 : ac.tmps[17]?.getD undef = .agg #[.int .i64 k2, .bool b2, .int .i64 n2, .string s2, .slice la2 ll2 lc2, .slice ma2 ml2 mc2] := hU 5 (by omega)
      clear hU hA
      have fz : Thaw wb bl := fun j => (hB.frozen (p := ⟨bl, j, none⟩) hf2).trans (hf3.out j)
      have f0 := fz (ol + j * 7 + 1)
      have f1 := fz (ol + j * 7 + 1 + 1)
      have f2 := fz (ol + j * 7 + 1 + 2)
      have f3 := fz (ol + j * 7 + 1 + 3)
      have f4 := fz (ol + j * 7 + 1 + 4)
      have f5 := fz (ol + j * 7 + 1 + 5)
      go_simp
      exact hK _ ⟨wb, hB, rfl⟩
    case s5 =>
      intro ac wn hA hF
      have hs : slots 8 (fun i => 12 + i) = [12, 13, 14, 15, 16, 17, 18, 19] := by rfl
      rw [hs] at hA
      have hac := hA.act (fun t ht => by
        have h8 : t = 12 ∨ t = 13 ∨ t = 14 ∨ t = 15 ∨ t = 16 ∨ t = 17 ∨ t = 18 ∨ t = 19 := by simpa using ht
        rcases h8 with rfl | rfl | rfl | rfl | rfl | rfl | rfl | rfl <;> exact Nat.lt_of_lt_of_le (by decide : _ < 21) (Nat.le_refl 21))
      rw [List.foldl_cons, List.foldl_cons, List.foldl_cons, List.foldl_cons, List.foldl_cons, List.foldl_cons, List.foldl_cons, List.foldl_cons, List.foldl_nil] at hac
      generalize sl ac 12 = x12 at hac
      generalize sl ac 13 = x13 at hac
      generalize sl ac 14 = x14 at hac
      generalize sl ac 15 = x15 at hac
      generalize sl ac 16 = x16 at hac
      generalize sl ac 17 = x17 at hac
      generalize sl ac 18 = x18 at hac
      generalize sl ac 19 = x19 at hac
      clear hA hs
      subst hac
      simp only [Act.put, List.setIfInBounds_toArray, List.set_cons_succ, List.set_cons_zero]
      obtain ⟨wb, hbu, rfl⟩ := hF
      have hwb : Below w.heap.size w wb := bstep HQ5.out (bstep hbv hbu hbv.size) HQ5.out.size
      have hwx : Lies wb (fun b => ((RX b ∧ b < w.heap.size) ∨ w.heap.size + 3 ≤ b) ∧ b ≠ bl) x ([.int .i64 k2, .bool b2, .int .i64 n2, .string s2, .slice la2 ll2 lc2, .slice ma2 ml2 mc2] : List Value).toArray := (HX.out.bound.later hwb).weaken fun b hb => ⟨.inl hb, by have := hb.2; omega⟩
      have hs2 : SliceP wb (fun b => (RX b ∧ b < w.heap.size) ∨ w.heap.size + 3 ≤ b) (putR key T.nil t.pairs) (some ⟨bl, ol, none⟩) cap dl := (HS.out.later hbu).weaken fun b hb => .inr hb
      have hl := laid_at hs2 (fun i hi => ((HM.out.each i hi bl ol rfl).later hbu).weaken fun b hb => ⟨.inr hb.1, hb.2⟩) j hj key T.nil x hat.out [.int .i64 k2, .bool b2, .int .i64 n2, .string s2, .slice la2 ll2 lc2, .slice ma2 ml2 mc2] rfl hwx
      rw [← hput.out] at hl
      have hlen : (putR key x t.pairs).length = (putR key T.nil t.pairs).length := by rw [hput.out, List.length_set]
      have hbg := (HG.out.later hbu hgl).other (g2 := bl) (fun e => hbn e.symm) [.int .i64 k2, .bool b2, .int .i64 n2, .string s2, .slice la2 ll2 lc2, .slice ma2 ml2 mc2] (ol + j * 7 + 1)
      have hbz := ((HQ3.out.later hbv (by omega)).later hbu (by have := hbv.size; omega)).other (g2 := bl) (by omega) [.int .i64 k2, .bool b2, .int .i64 n2, .string s2, .slice la2 ll2 lc2, .slice ma2 ml2 mc2] (ol + j * 7 + 1)
      have htz := ((HQ4.out.later hbv (by omega)).later hbu (by have := hbv.size; omega)).store (g2 := bl) [.int .i64 k2, .bool b2, .int .i64 n2, .string s2, .slice la2 ll2 lc2, .slice ma2 ml2 mc2] (ol + j * 7 + 1)
      have hbw := setRow_below bl (by omega) [.int .i64 k2, .bool b2, .int .i64 n2, .string s2, .slice la2 ll2 lc2, .slice ma2 ml2 mc2] wb (ol + j * 7 + 1) hwb
      generalize setRow wb bl (ol + j * 7 + 1) [.int .i64 k2, .bool b2, .int .i64 n2, .string s2, .slice la2 ll2 lc2, .slice ma2 ml2 mc2] = W6 at hl hbg hbz htz hbw ⊢
      have HL := Lib.hid hl
      have HZ6 := Lib.hid hbz
      have HLN := Lib.hid hlen
      obtain ⟨g0, g1, g2, g3, g4, g5⟩ := hbg.six
      obtain ⟨z0, z1, z2, z3, z4, z5⟩ := hbz.six
      obtain ⟨f0, f1, f2, f3, f4, f5⟩ := htz.six
      clear hl hbz htz hbg hlen hs2 hwx
      go_wp2_with fail
      refine ret_cells W6 (w.heap.size + 2) [.int .i64 5, .bool false, .int .i64 0, .string ⟨#[]⟩, .slice none 0 0, .slice (some ⟨bl, ol, none⟩) (putR key T.nil t.pairs).length cap] rfl Try.results110 rfl rfl DD.out HU.out Try.sizeV (fun i hi => ⟨_, (HZ6.out i hi).trans (Array.getElem?_eq_getElem (show i < 6 from hi))⟩) ?_
      rw [← HLN.out]
      exact ⟨_, rfl, Lies.of_slices (m := putR key x t.pairs) wfp5 wfp0 empty_sp (empty_sVp _ _) ((HL.out.keepB (fun b hb _ => setRow_heap _ _ _ _ _ (by rcases hb with h | h <;> omega))).weaken (fun b hb => by rcases hb with h | h; exact .inl h; exact .inr (by omega))), setRow_below _ (by omega) _ _ _ hbw⟩

end Go.Proofs.Ytnfmmgbghbaecaa

/-
  Package path's way.
-/
set_option linter.unusedVariables false
set_option linter.unusedSimpArgs false
namespace Go.Proofs.Ytnfmmgbghbaecaa
open Go.RowKit

theorem Box6.same {w w' : World} {g : Nat} {cs : Array Value} (h : Box6 w g cs) (e : w'.heap[g]? = w.heap[g]?) : Box6 w' g cs := fun j hj => (World.cell?_of_block e).trans (h j hj)
theorem Thaw.same {w w' : World} {g : Nat} (h : Thaw w g) (e : w'.heap[g]? = w.heap[g]?) : Thaw w' g := fun j => (World.frozen?_of_block e).trans (h j)
theorem own_same {w w' : World} {base g n cap size : Nat} {e : TypeId} {xs : List Value} (h : w.ownsRow base e size (.slice (some ⟨g, 0, none⟩) n cap) n xs) (he : w'.heap[g]? = w.heap[g]?) : w'.ownsRow base e size (.slice (some ⟨g, 0, none⟩) n cap) n xs := by
  refine ⟨h.1, ?_⟩
  rcases h.2 with ⟨e, _⟩ | ⟨g', c', cur, e, hb, hg, rest⟩
  · cases e
  · obtain ⟨rfl, rfl⟩ : g = g' ∧ cap = c' := by simpa using e
    exact .inr ⟨g, cap, cur, rfl, hb, he.trans hg, rest⟩

/-- What has been laid of a way. -/
structure WayB (w0 : World) (R : Nat → Prop) (w : World) (base g : Nat) (ts : List T) (j cap : Nat) (D : List (Array Value)) : Prop where
  len : D.length = j
  own : w.ownsRow base 25 6 (.slice (some ⟨g, 0, none⟩) j cap) j (D.flatMap Array.toList)
  each : ∀ i (h : i < D.length) (h2 : i < ts.length), Lies w0 R ts[i] D[i]

theorem WayB.done {w0 : World} {R : Nat → Prop} {w : World} {base g cap : Nat} {ts : List T} {D : List (Array Value)} (h : WayB w0 R w base g ts ts.length cap D) (hw : Below w0.heap.size w0 w) (hg : base ≤ g) (hx : ts.length * 88 ≤ 140737488355328) (hc : ts.length ≤ cap) (hm : cap ≤ 9223372036854775807) :
    SliceV w (fun b => R b ∨ base ≤ b) ts (some ⟨g, 0, none⟩) cap (fun i => D.getD i #[]) := by
  have hD : ∀ d ∈ D, d.size = 6 := fun d hd => by
    obtain ⟨i, hi, rfl⟩ := List.getElem_of_mem hd
    exact (h.each i hi (by have := h.len; omega)).size6
  refine ⟨⟨hc, hx, by simp, fun _ => ⟨g, 0, rfl, .inr hg⟩, hm⟩, fun i hi bl ol e k hk' => ?_, fun i hi => ?_⟩
  · simp only [Option.some.injEq, Addr.mk.injEq, and_true] at e
    obtain ⟨rfl, rfl⟩ := e
    have hi' : i < D.length := by rw [h.len]; exact hi
    have eD : D.getD i #[] = D[i] := by simp [List.getD, List.getElem?_eq_getElem hi']
    have hk6 : k < D[i].size := by rw [← eD]; exact hk'
    have h6 := hD D[i] (List.getElem_mem hi')
    have hlt : i * 6 + k < ts.length * 6 := by omega
    rw [Nat.zero_add, h.own.cellAt (i * 6 + k) hlt, flat_get D hD i hi' k hk6]
    exact congrArg some (get_congr eD.symm k _ _)
  · have hi' : i < D.length := by rw [h.len]; exact hi
    have eD : D.getD i #[] = D[i] := by simp [List.getD, List.getElem?_eq_getElem hi']
    rw [eD]
    exact ((h.each i hi' hi).later hw).weaken fun b hb => .inl hb

theorem WayB.push {w0 : World} {R : Nat → Prop} {w w' : World} {base g j cap : Nat} {ts : List T} {D : List (Array Value)} (h : WayB w0 R w base g ts j cap D) {t : T} {ds : Array Value} (hL : Lies w0 R t ds) (hj : ∀ h : j < ts.length, ts[j] = t)
    (own : w'.ownsRow base 25 6 (.slice (some ⟨g, 0, none⟩) (j + 1) cap) (j + 1) (D.flatMap Array.toList ++ ds.toList)) : WayB w0 R w' base g ts (j + 1) cap (D ++ [ds]) := by
  refine ⟨by simp [h.len], by simpa using own, fun i hi h2 => ?_⟩
  by_cases hij : i < D.length
  · rw [List.getElem_append_left hij]
    exact h.each i hij h2
  · obtain rfl : i = j := by have := h.len; simp at hi; omega
    rw [List.getElem_append_right (by omega)]
    simp only [h.len, Nat.sub_self, List.getElem_cons_zero]
    rw [hj h2]
    exact hL
theorem WayB.keep {w0 : World} {R : Nat → Prop} {w w' : World} {base g j cap : Nat} {ts : List T} {D : List (Array Value)} (h : WayB w0 R w base g ts j cap D) (e : w'.heap[g]? = w.heap[g]?) : WayB w0 R w' base g ts j cap D := ⟨h.len, own_same h.own e, h.each⟩

def WayTo (w0 : World) (R : Nat → Prop) (w : World) (ts : List T) (e : Ending) (w' : World) : Prop := ∃ a cap cl, e = .returned (.slice a ts.length cap) ∧ SliceV w' (fun b => R b ∨ w.heap.size ≤ b) ts a cap cl ∧ Below w.heap.size w w'

set_option maxRecDepth 100000 in
set_option maxHeartbeats 4000000 in
theorem way_any {w0 : World} {R : Nat → Prop} {t : T} {cs : Array Value} {ks : List ByteArray} {sa : Option Addr} {sc : Nat} (h : Lies w0 R t cs) (hS : SliceS w0 ks sa sc) (hn : ks.length ≤ 1000000) (w : World) (hw : Below w0.heap.size w0 w) :
    Calls Try.prog 92 #[.agg cs, .slice sa ks.length sc] w (WayTo w0 R w (wayL ks t)) := by
  have H := Lib.hid h
  have HS := Lib.hid hS
  have ll := hS.le
  have lx := hS.big
  have HWL := Lib.hid (way_len ks t)
  obtain ⟨k, b, n, s, la, ll2, lc, ma, ml, mc, rfl⟩ := h.six
  obtain ⟨i0, hi, hz0, hz1, hz2⟩ := info_parts Try.infoV
  clear h hS
  have B0 := Lib.hid (Box6.new w #[.int .i64 k, .bool b, .int .i64 n, .string s, .slice la ll2 lc, .slice ma ml mc] 25)
  have T0 := Lib.hid (Thaw.new w #[.int .i64 k, .bool b, .int .i64 n, .string s, .slice la ll2 lc, .slice ma ml mc] 25)
  have hsz : (w.alloc (.cells #[.int .i64 k, .bool b, .int .i64 n, .string s, .slice la ll2 lc, .slice ma ml mc] 25)).heap.size = w.heap.size + 1 := by simp
  have HB := Lib.hid ((Below.refl w.heap.size w).alloc (Nat.le_refl _) (.cells #[.int .i64 k, .bool b, .int .i64 n, .string s, .slice la ll2 lc, .slice ma ml mc] 25))
  generalize hv : w.alloc (.cells #[.int .i64 k, .bool b, .int .i64 n, .string s, .slice la ll2 lc, .slice ma ml mc] 25) = v at B0 T0 HB hsz
  have HSZ := Lib.hid hsz
  have hvs : w.heap.size < v.heap.size := by omega
  have hvs2 : v.heap.size ≤ w.heap.size + 1 := by omega
  have HV := Lib.hid hv
  clear hsz hv
  go_enter Try.func92, Try.ntmps92
  go_upto_region 1 with fail
  rw [HV.out]
  go_upto_region 2 with (at_make; refine wpList_make_own _ rfl _ _ 22 rfl v.heap.size 25 i0 _ 6 Try.underlying22 hi hz0 hz1 .i64 .i64 _ ks.length rfl rfl rfl (by rw [hz2]; omega) (by unfold maxLen; omega) (Nat.le_refl _) ?_; intro w1 hown hgrow)
  have hgr : ∀ b, b < v.heap.size → w1.heap[b]? = v.heap[b]? := fun b hb => hgrow.block b hb (by simp)
  have hlt1 : v.heap.size < w1.heap.size := (hown.lt v.heap.size (by simp [Value.ownBlock])).2
  have B1 := Lib.hid (B0.out.same (hgr _ (by omega)))
  have T1 := Lib.hid (T0.out.same (hgr _ (by omega)))
  have HB1 := Lib.hid (HB.out.grown hgrow (by omega) (by simp))
  have HO := Lib.hid hown
  clear hown hgrow hgr
  go_wp2_with fail
  go_loopw [5, 13] (fun vn vi wr => ∃ (j : Nat) (cur : T) (ds : Array Value) (D : List (Array Value)), j ≤ ks.length ∧ vi = .int .i64 j ∧ vn = .slice (some ⟨v.heap.size, 0, none⟩) j ks.length ∧ Hid (Lies w0 R cur ds) ∧ Hid ((wayL ks t).drop j = wayL (ks.drop j) cur) ∧ Hid (Box6 wr w.heap.size ds) ∧ Hid (Thaw wr w.heap.size) ∧ Hid (WayB w0 R wr v.heap.size v.heap.size (wayL ks t) j ks.length D) ∧ Below w.heap.size w wr ∧ v.heap.size < wr.heap.size) (fun _ vi _ => ks.length - (intOf vi).toNat)
  case atStart => exact ⟨0, t, _, [], by omega, rfl, rfl, H, rfl, B1, T1, ⟨rfl, HO.out, fun i h => absurd h (by simp)⟩, HB1.out, hlt1⟩
  case round =>
    obtain ⟨j, cur, ds, D, hj, rfl, rfl, HL, HA, HX, HT, HW, hbw, hlw⟩ := hrel
    obtain ⟨d0, d1, d2, d3, d4, d4l, d4c, d5, d5l, d5c, rfl⟩ := HL.out.six
    obtain ⟨x0, x1, x2, x3, x4, x5⟩ := HX.out.six
    have hbr := bstep hw hbw hw.size
    by_cases hjl : j < ks.length
    · obtain ⟨sb, so, rfl, kc⟩ := HS.out.at hbr hjl
      have hlone := HL.out.one
      have own2 := HW.out.own.alloc (.cells #[.int .i64 d0, .bool d1, .int .i64 d2, .string d3, .slice d4 d4l d4c, .slice d5 d5l d5c] 25)
      have OWN2 := Lib.hid own2
      clear own2
      go_upto_region 6 with (at_builtin; refine wpList_append_fits _ rfl (.tmp 17) (.tmp 19) 22 rfl v.heap.size 25 i0 6 Try.underlying22 hi hz1 v.heap.size j ks.length _ rfl OWN2.out ⟨wr.heap.size, 0, none⟩ 1 1 [.int .i64 d0, .bool d1, .int .i64 d2, .string d3, .slice d4 d4l d4c, .slice d5 d5l d5c] rfl rfl (fun j u hu => lit_cells wr _ _ j u hu) hlone (by omega) ?_; intro w3 own3 hg3)
      have hgb : ∀ b, b < wr.heap.size → b ≠ v.heap.size → w3.heap[b]? = wr.heap[b]? := fun b hb hne => (hg3.block b (by simp; omega) (by simpa using hne)).trans (Below.heap_alloc _ _ _ hb)
      have hs3 : wr.heap.size + 1 ≤ w3.heap.size := by have := hg3.size; simpa using this
      have hb3 : Below w.heap.size w w3 := (hbw.alloc hbw.size _).grown hg3 (by simp; omega) (by simp; omega)
      have HX3 := Lib.hid (HX.out.same (hgb w.heap.size (by omega) (by omega)))
      have HT3 := Lib.hid (HT.out.same (hgb w.heap.size (by omega) (by omega)))
      have hwj : ∀ h : j < (wayL ks t).length, (wayL ks t)[j] = cur := fun h => by
        have e := HA.out
        rw [List.drop_eq_getElem_cons h, List.drop_eq_getElem_cons hjl, wayL] at e
        exact (List.cons.inj e).1
      have HW3 := Lib.hid (HW.out.push (w' := w3) HL.out hwj own3)
      have hnext : (wayL ks t).drop (j + 1) = wayL (ks.drop (j + 1)) (inL ks[j] cur) := by
        have e := HA.out
        rw [List.drop_eq_getElem_cons (by rw [HWL.out]; exact hjl), List.drop_eq_getElem_cons hjl, wayL] at e
        exact (List.cons.inj e).2
      have HN := Lib.hid hnext
      have HC := Lib.hid (child_any HL.out ks[j])
      obtain ⟨y0, y1, y2, y3, y4, y5⟩ := HX3.out.six
      have HB3 := Lib.hid hb3
      clear x0 x1 x2 x3 x4 x5 kc hgb hwj hnext own3 hb3 hg3 hlone
      go_wp2_with fail
      refine (HC.out w3 (bstep hw HB3.out hw.size)).mono ?_
      rintro e w4 ⟨es, rfl, hL4, hb4⟩
      have hL4' : Lies w0 R (inL ks[j] cur) es := hL4
      obtain ⟨e0, e1, e2, e3, e4, e4l, e4c, e5, e5l, e5c, rfl⟩ := hL4.six
      have HL4 := Lib.hid hL4'
      have hs4 := hb4.size
      have HX4 := Lib.hid (HX3.out.later hb4 (by omega))
      have HT4 := Lib.hid (HT3.out.later hb4 (by omega))
      obtain ⟨z0, z1, z2, z3, z4, z5⟩ := HX4.out.six
      obtain ⟨f0, f1, f2, f3, f4, f5⟩ := HT4.out.six
      have HW4 := Lib.hid (HW3.out.keep (w' := w4) (hb4.block v.heap.size (by omega)))
      have HB4 := Lib.hid (bstep HB3.out hb4 HB3.out.size)
      clear hL4 hL4' hb4 y0 y1 y2 y3 y4 y5
      go_upto_region 7 with fail
      show Code.wp _ _ _ _ (setRow w4 w.heap.size 0 [.int .i64 e0, .bool e1, .int .i64 e2, .string e3, .slice e4 e4l e4c, .slice e5 e5l e5c])
      have hx5 := HX4.out.store rfl (.int .i64 e0) (.bool e1) (.int .i64 e2) (.string e3) (.slice e4 e4l e4c) (.slice e5 e5l e5c)
      have ht5 := HT4.out.store (g2 := w.heap.size) [.int .i64 e0, .bool e1, .int .i64 e2, .string e3, .slice e4 e4l e4c, .slice e5 e5l e5c] 0
      have hw5 := HW4.out.keep (w' := setRow w4 w.heap.size 0 [.int .i64 e0, .bool e1, .int .i64 e2, .string e3, .slice e4 e4l e4c, .slice e5 e5l e5c]) (setRow_heap _ _ _ _ _ (by omega))
      have hb5 := setRow_below w.heap.size (Nat.le_refl _) [.int .i64 e0, .bool e1, .int .i64 e2, .string e3, .slice e4 e4l e4c, .slice e5 e5l e5c] _ 0 HB4.out
      have hs5 : v.heap.size < (setRow w4 w.heap.size 0 [.int .i64 e0, .bool e1, .int .i64 e2, .string e3, .slice e4 e4l e4c, .slice e5 e5l e5c]).heap.size := by rw [setRow_size]; omega
      generalize setRow w4 w.heap.size 0 [.int .i64 e0, .bool e1, .int .i64 e2, .string e3, .slice e4 e4l e4c, .slice e5 e5l e5c] = W5 at hx5 ht5 hw5 hb5 hs5 ⊢
      have HX5 := Lib.hid hx5
      have HT5 := Lib.hid ht5
      have HW5 := Lib.hid hw5
      have HB5 := Lib.hid hb5
      clear hx5 ht5 hw5 hb5 z0 z1 z2 z3 z4 z5 f0 f1 f2 f3 f4 f5
      go_wp2_with fail
      go_roundw
      case rel => exact ⟨j + 1, inL ks[j] cur, _, _, by omega, by go_num, rfl, HL4, HN, HX5, HT5, HW5, HB5.out, hs5⟩
      case measure => simp [intOf]; omega
    · obtain rfl : j = ks.length := by omega
      have hd := HW.out
      rw [show ks.length = (wayL ks t).length from HWL.out.symm] at hd
      have HD := Lib.hid (hd.done hbr (by omega) (by rw [HWL.out]; omega) (Nat.le_refl _) (by rw [HWL.out]; omega))
      clear hd
      go_wp2_with fail
      go_ret
      refine ⟨some ⟨v.heap.size, 0, none⟩, ks.length, fun i => D.getD i #[], congrArg (fun q => Ending.returned (Value.slice (some ⟨v.heap.size, 0, none⟩) q ks.length)) HWL.out.symm, ?_, hbw⟩
      have := HD.out
      rw [show (wayL ks t).length = ks.length from HWL.out] at this
      exact this.weaken fun b hb => hb.imp id (fun h => by omega)

end Go.Proofs.Ytnfmmgbghbaecaa

/-
  A region that draws its order, in a fence: the rules of XRegion and XSpecsB again.
-/
set_option linter.unusedVariables false
set_option linter.unusedSimpArgs false
namespace Go.Proofs.Ytnfmmgbghbaecaa
open Go.RowKit

section
variable {F : Fence} {nn : Nat} {P : Program} {ops : Array Oper} {Q : Exit → Act → World → Prop}

theorem wpAnyIn_inv (Inv : (Nat → Bool) → Act → World → Prop)
    (hs : ∀ d a w i o, ops[i]? = some o → d i = false → (∀ e ∈ o.after, Region.binds .any e = true → d e.on = true) → Inv d a w → wpOpIn F nn P ops Q i (Inv fun k => if k = i then true else d k) a w)
    (he : ∀ l a w, l.size = ops.size → Inv (fun k => l.getD k false) a w → Region.ready .any ops l = [] → Q .normal a w) :
    ∀ (fuel : Nat) (l : Array Bool) (a : Act) (w : World), l.size = ops.size → l.toList.count false ≤ fuel → Inv (fun k => l.getD k false) a w → wpAnyIn F nn P .any ops Q fuel l a w
  | 0, l, a, w, hz, hc, h => by
    have hr : Region.ready .any ops l = [] := by
      apply List.eq_nil_iff_forall_not_mem.2
      intro j hj
      obtain ⟨h0, o, ho, _⟩ := mem_ready.1 hj
      have hj2 : j < l.size := by rw [hz]; exact (Array.getElem?_eq_some_iff.1 ho).1
      have e : l[j] = false := by simpa [Array.getD, hj2] using h0
      have : 0 < l.toList.count false := List.count_pos_iff.2 (by
        have : l.toList[j]'(by simpa using hj2) = false := by simpa using e
        rw [← this]; exact List.getElem_mem _)
      omega
    exact ⟨hr, he l a w hz h hr⟩
  | fuel + 1, l, a, w, hz, hc, h => by
    refine ⟨he l a w hz h, fun i hi => ?_⟩
    obtain ⟨h0, o, ho, hd⟩ := mem_ready.1 hi
    have hi2 : i < l.size := by rw [hz]; exact (Array.getElem?_eq_some_iff.1 ho).1
    have h0' : l.getD i false = false := by simpa [Array.getD, hi2] using h0
    refine wpOpIn_mono (fun a' w' hk => ?_) (hs _ a w i o ho h0' hd h)
    refine wpAnyIn_inv Inv hs he fuel _ a' w' (by simpa using hz) (by have := count_set hi2 h0; omega) ?_
    have : (fun k => (l.setIfInBounds i true).getD k false) = fun k => if k = i then true else l.getD k false := funext fun k => getD_set hi2 k
    rw [this]
    exact hk

/-- THE RULE: kept by whatever operation may come next, an invariant holds where all are done. -/
theorem wpIn_region_inv {id : Nat} {a : Act} {w : World} (Inv : (Nat → Bool) → Act → World → Prop) (hm : P.follows .mixedOrders = true) (hlt : (List.range ops.size).all (fun i => ((ops[i]?).map fun o => o.after.all fun e => decide (e.on < i)).getD true) = true)
    (h0 : Inv (fun _ => false) a w.drew)
    (hs : ∀ d a w i o, ops[i]? = some o → d i = false → (∀ e ∈ o.after, Region.binds .any e = true → d e.on = true) → Inv d a w → wpOpIn F nn P ops Q i (Inv fun k => if k = i then true else d k) a w)
    (he : ∀ d a w, (∀ i, i < ops.size → d i = true) → Inv d a w → Q .normal a w) : (Code.region id ops true).wpIn F nn P Q a w := by
  refine wpIn_region_any hm (wpAnyIn_inv Inv hs (fun l a w hz hi hr => he _ a w (ready_nil hz (fun i o ho e hee => ?_) hr) hi) _ _ a _ (by simp) (by simp) ?_)
  · have hi : i < ops.size := (Array.getElem?_eq_some_iff.1 ho).1
    have h1 := List.all_eq_true.1 hlt i (List.mem_range.2 hi)
    rw [ho] at h1
    simp only [Option.map_some, Option.getD_some] at h1
    have := (Array.all_eq_true_iff_forall_mem.1 h1) e hee
    simpa using this
  · have : (fun k => (Array.replicate ops.size false).getD k false) = fun _ => false := funext fun k => by
      simp [Array.getD]
    rw [this]
    exact h0

theorem wpOpIn_of {i : Nat} {o : Oper} {a : Act} {w : World} {K : Act → World → Prop} (ho : ops[i]? = some o) (hg : o.guard = none) (h : o.wpIn F nn P a w K Q) : wpOpIn F nn P ops Q i K a w := by
  unfold wpOpIn
  rw [ho]
  have hw : Region.wanted o (yielded ops a.tmps) = true := by simp [Region.wanted, hg]
  simp only [hw, if_true]
  exact h

/-- .. the invariant knowing the act at its head. -/
theorem wpIn_region_keeps {id : Nat} {a : Act} {w : World} (Inv : Act → (Nat → Bool) → Act → World → Prop) (hm : P.follows .mixedOrders = true) (hlt : (List.range ops.size).all (fun i => ((ops[i]?).map fun o => o.after.all fun e => decide (e.on < i)).getD true) = true)
    (h0 : Inv a (fun _ => false) a w.drew)
    (hs : ∀ d b w i o (K : Act → World → Prop), ops[i]? = some o → d i = false → (∀ e ∈ o.after, Region.binds .any e = true → d e.on = true) → Inv a d b w → (∀ b' w', Inv a (fun k => if k = i then true else d k) b' w' → K b' w') → wpOpIn F nn P ops Q i K b w)
    (he : ∀ d b w, (∀ i, i < ops.size → d i = true) → Inv a d b w → Q .normal b w) : (Code.region id ops true).wpIn F nn P Q a w :=
  wpIn_region_inv (Inv a) hm hlt h0 (fun d b w i o h1 h2 h3 h4 => hs d b w i o _ h1 h2 h3 h4 fun _ _ h => h) he
end

theorem wpIn_region_specs2 {F : Fence} {nn : Nat} {P : Program} {ops : Array Oper} {Q : Exit → Act → World → Prop} {id : Nat} {a : Act} {w : World} (v : World) (n : Nat) (D : Nat → Tmp) (U : Nat → Value → World → Prop) (Fin : Act → World → Prop)
    (hm : P.follows .mixedOrders = true) (hB : specsC ops n D = true) (hsz : ∀ i, i < n → D i < a.tmps.size) (hv : Below v.heap.size v w)
    (mono : ∀ i x w w', Below w.heap.size w w' → U i x w → U i x w')
    (hstep : ∀ i o b wb (K : Act → World → Prop), ops[i]? = some o → i < n → Agree (slots n D) a b → Below v.heap.size v wb → (∀ e ∈ o.after, Region.binds .any e = true → U e.on (sl b (D e.on)) wb) → (∀ x w', Below wb.heap.size wb w' → U i x w' → K (b.put (some (D i)) x) w') → o.wpIn F nn P b wb K Q)
    (hlast : ∀ o b wb (K : Act → World → Prop), ops[n]? = some o → Agree (slots n D) a b → Below v.heap.size v wb → (∀ i, i < n → U i (sl b (D i)) wb) → (∀ w', Fin b w' → K b w') → o.wpIn F nn P b wb K Q)
    (he : ∀ b wb, Agree (slots n D) a b → Fin b wb → Q .normal b wb) : (Code.region id ops true).wpIn F nn P Q a w := by
  unfold specsC at hB
  simp only [Bool.and_eq_true] at hB
  obtain ⟨⟨⟨⟨h1, h2⟩, h3⟩, h4⟩, h5⟩ := hB
  have hsize : ops.size = n + 1 := of_decide_eq_true h1
  have hdst : ∀ i o, ops[i]? = some o → i < n → o.dst = some (D i) ∧ o.guard = none := fun i o ho hi => by
    have := List.all_eq_true.1 h2 i (List.mem_range.2 hi)
    rw [ho] at this
    simp only [Option.map_some, Option.getD_some, Bool.and_eq_true, decide_eq_true_eq, Option.isNone_iff_eq_none] at this
    exact this
  have hinj : ∀ i j, i < n → j < n → D i = D j → i = j := fun i j hi hj => by
    have := List.all_eq_true.1 (List.all_eq_true.1 h4 i (List.mem_range.2 hi)) j (List.mem_range.2 hj)
    exact of_decide_eq_true this
  refine wpIn_region_keeps (fun a0 d b wb => (∀ i o, ops[i]? = some o → d i = true → ∀ e ∈ o.after, Region.binds .any e = true → d e.on = true) ∧ Agree (slots n D) a0 b ∧ b.tmps.size = a0.tmps.size ∧ ((d n = false ∧ Below v.heap.size v wb ∧ ∀ i, i < n → d i = true → U i (sl b (D i)) wb) ∨ ((∀ i, i < n + 1 → d i = true) ∧ Fin b wb))) hm h5 ⟨(fun i o _ h => by cases h), Agree.refl _ _, rfl, .inl ⟨rfl, hv.drew, fun i hi h => by cases h⟩⟩ ?_ ?_
  · intro d b wb i o K ho hd hdep hI hK
    obtain ⟨hcl, hA, hbs, hI⟩ := hI
    have hcl2 : ∀ i2 o2, ops[i2]? = some o2 → (if i2 = i then true else d i2) = true → ∀ e ∈ o2.after, Region.binds .any e = true → (if e.on = i then true else d e.on) = true := fun i2 o2 ho2 hd2 e he hb => by
      by_cases h1 : e.on = i
      · rw [if_pos h1]
      · rw [if_neg h1]
        by_cases h2 : i2 = i
        · subst h2
          obtain rfl := Option.some.inj (ho2.symm.trans ho)
          exact hdep e he hb
        · rw [if_neg h2] at hd2
          exact hcl i2 o2 ho2 hd2 e he hb
    have hi : i < n + 1 := by rw [← hsize]; exact (Array.getElem?_eq_some_iff.1 ho).1
    by_cases hin : i < n
    · rcases hI with ⟨hdn, hbv, hU⟩ | ⟨hdn, _⟩
      · obtain ⟨e1, e2⟩ := hdst i o ho hin
        refine wpOpIn_of ho e2 (hstep i o b wb K ho hin hA hbv (fun e hee hb => ?_) fun x w' hb hx => hK _ _ ⟨hcl2, hA.put (mem_slots hin) x, (size_put _ _ _).trans hbs, .inl ⟨?_, bstep hbv hb hbv.size, fun j hj hdj => ?_⟩⟩)
        · have hlt := List.all_eq_true.1 h5 i (List.mem_range.2 (by omega))
          rw [ho] at hlt
          simp only [Option.map_some, Option.getD_some] at hlt
          have := (Array.all_eq_true_iff_forall_mem.1 hlt) e hee
          exact hU e.on (by have := of_decide_eq_true this; omega) (hdep e hee hb)
        · show (if n = i then true else d n) = false
          rw [if_neg (by omega)]; exact hdn
        · by_cases hji : j = i
          · subst hji
            rw [sl_eq (by rw [hbs]; exact hsz j hj)]
            exact hx
          · have hdj : (if j = i then true else d j) = true := hdj
            rw [if_neg hji] at hdj
            rw [sl_ne (fun e => hji (hinj j i hj hin e.symm))]
            exact mono _ _ _ _ hb (hU j hj hdj)
      · rw [hdn i hi] at hd; cases hd
    · obtain rfl : i = n := by omega
      rcases hI with ⟨hdn, hbv, hU⟩ | ⟨hdn, _⟩
      · rw [ho] at h3
        simp only [Option.map_some, Option.getD_some, Bool.and_eq_true, Option.isNone_iff_eq_none] at h3
        obtain ⟨⟨_, e2⟩, h3⟩ := h3
        have hall : ∀ j, j < i → d j = true := fun j hj => by
          have := List.all_eq_true.1 h3 j (List.mem_range.2 hj)
          obtain ⟨k, hk, hke⟩ := Array.any_eq_true.1 this
          simp only [Bool.and_eq_true, Bool.or_eq_true, decide_eq_true_eq] at hke
          have hd1 := hdep _ (Array.getElem_mem hk) hke.1
          rcases hke.2 with hk2 | hk2
          · rw [← hk2]
            exact hd1
          · cases hok : ops[(o.after[k]).on]? with
            | none => rw [hok] at hk2; simp at hk2
            | some o2 =>
              rw [hok] at hk2
              simp only [Option.map_some, Option.getD_some] at hk2
              obtain ⟨k3, hk3, hke3⟩ := Array.any_eq_true.1 hk2
              simp only [Bool.and_eq_true, decide_eq_true_eq] at hke3
              rw [← hke3.2]
              exact hcl _ o2 hok hd1 _ (Array.getElem_mem hk3) hke3.1
        exact wpOpIn_of ho e2 (hlast o b wb K ho hA hbv (fun j hj => hU j hj (hall j hj)) fun w' hf => hK _ _ ⟨hcl2, hA, hbs, .inr ⟨fun j hj => by
          show (if j = i then true else d j) = true
          by_cases hji : j = i
          · rw [if_pos hji]
          · rw [if_neg hji]; exact hall j (by omega), hf⟩⟩)
      · rw [hdn i hi] at hd; cases hd
  · intro d b wb hall hI
    obtain ⟨_, hA, hbs, hI⟩ := hI
    rcases hI with ⟨hdn, _⟩ | ⟨_, hF⟩
    · rw [hall n (by omega)] at hdn; cases hdn
    · exact he b wb hA hF



end Go.Proofs.Ytnfmmgbghbaecaa

/-
  Package slices' Backward, at slices of values.
-/
set_option linter.unusedVariables false
set_option linter.unusedSimpArgs false
namespace Go.Proofs.Ytnfmmgbghbaecaa
open Go.RowKit Go.Shelf

attribute [local go_sem] Oper.semAt_some

/-- The places of n values, from the last one on. -/
def backs (n : Nat) : List (Fin n) := (List.finRange n).reverse
theorem backs_len (n : Nat) : (backs n).length = n := by simp [backs]
theorem backs_succ (n k : Nat) (h : k < n) : (backs n).take (k + 1) = (backs n).take k ++ [⟨n - 1 - k, by omega⟩] := by
  rw [List.take_succ_eq_append_getElem (by rw [backs_len]; exact h)]
  congr 1
  simp [backs, List.getElem_reverse]

/-- What a round keeps: what lay below n₀, and the variable that holds the slice. -/
def KeepBk (n₀ Bs : Nat) (W W' : World) : Prop := Below n₀ W W' ∧ ∀ v, W.cell? ⟨Bs, 0, none⟩ = some v → W'.cell? ⟨Bs, 0, none⟩ = some v
theorem keepBk_t {n₀ Bs : Nat} {A B C : World} (h : KeepBk n₀ Bs A B) (k : KeepBk n₀ Bs B C) : KeepBk n₀ Bs A C := ⟨h.1.trans k.1, fun v hv => k.2 v (h.2 v hv)⟩
theorem keepBk_b {n₀ Bs : Nat} {w : World} (hn : n₀ ≤ w.heap.size) (W : World) (l : Nat) (o o' : Obj) (hl : w.heap.size ≤ l) (h : W.heap[l]? = some o) (ho : o.isCells = false) (h3 : o.isWalk = false) : KeepBk n₀ Bs W (W.putObj l o') :=
  ⟨belowK_b hn W l o o' hl h ho h3, fun v hv => by
    have hne : Bs ≠ l := fun e => by
      subst e
      unfold World.cell? at hv
      rw [h] at hv
      cases o <;> first | (cases hv; done) | (cases ho; done)
    have := World.putObj_heap_other (w := W) (o := o') hne
    unfold World.cell? at hv ⊢
    rw [this]
    exact hv⟩

set_option maxRecDepth 100000 in
set_option maxHeartbeats 4000000 in
theorem back1_in (F : Fence) (m : Nat) (hf : F.fn 120) (hro : F.round = none) (hm : 1 ≤ m) (l Bs n₀ n cap : Nat) (a : Option Addr) (cl : Nat → Array Value) (hle : n ≤ cap) (hbig : n * 88 ≤ 140737488355328)
    (hsome : 0 < n → ∃ bl ol, a = some ⟨bl, ol, none⟩ ∧ bl < n₀) (h6 : ∀ i, i < n → ∃ (k : Int) (b : Bool) (q : Int) (s : ByteArray) (la : Option Addr) (ll lc : Nat) (ma : Option Addr) (ml mc : Nat), cl i = #[.int .i64 k, .bool b, .int .i64 q, .string s, .slice la ll lc, .slice ma ml mc]) (J Jx : List (Fin n) → World → Prop)
    (hY : ∀ pre x W, J pre W → pre.length < n → YieldAt F (m - 1) Try.prog l #[.int .i64 (x.val : Int), .agg (cl x.val)] W fun e W' =>
      (e = .returned (.bool true) ∧ J (pre ++ [x]) W' ∧ KeepBk n₀ Bs W W') ∨ (e = .returned (.bool false) ∧ Jx (pre ++ [x]) W'))
    (W : World) (hBs : W.cell? ⟨Bs, 0, none⟩ = some (.slice a n cap)) (hc : ∀ i, i < n → ∀ bl ol, a = some ⟨bl, ol, none⟩ → Row W bl (ol + i * 6) (cl i)) (h0 : J [] W) :
    CallsIn F m Try.prog 120 #[.func (.yield l) #[] #[], .pointer (some ⟨Bs, 0, none⟩)] W fun e W' => (∃ v, e = .returned v) ∧
      ((∃ ys, ys = backs n ∧ J ys W') ∨ (∃ pre, (∃ k, k ≤ n ∧ pre = (backs n).take k) ∧ Jx pre W')) := by
  refine callsIn_of_wp Try.func120 rfl hf ?_ hro
  simp only [Try.ntmps120, List.size_toArray, List.length_cons, List.length_nil, Nat.reduceAdd, Nat.reduceSub, Array.replicate_succ, Array.replicate_zero, List.push_toArray, List.append_toArray, List.nil_append, List.cons_append]
  have HBs := Lib.hid hBs
  have hw1 : IntKind.i64.wrap ((n : Int) - 1) = (n : Int) - 1 := IntWalk.i64_in _ (by omega)
  gi_wp2
  gi_loopw [3] (fun i wr => ∃ k : Nat, k ≤ n ∧ i = .int .i64 ((n : Int) - 1 - k) ∧ J ((backs n).take k) wr ∧ Below n₀ W wr ∧ wr.cell? ⟨Bs, 0, none⟩ = some (.slice a n cap))
    (fun i _ => (intOf i + 1).toNat)
  case atStart => exact ⟨0, Nat.zero_le _, by simp, by simpa using h0, Below.refl _ _, HBs.out⟩
  case round =>
    obtain ⟨k, hk, rfl, hJs, hnx, hbs⟩ := hrel
    clear hBs
    by_cases hlt : k < n
    · obtain ⟨bl, ol, rfl, hbl⟩ := hsome (by omega)
      obtain ⟨x, hxv⟩ : ∃ x : Fin n, x.val = n - 1 - k := ⟨⟨n - 1 - k, by omega⟩, rfl⟩
      have hsucc : (backs n).take (k + 1) = (backs n).take k ++ [x] := by rw [backs_succ n k hlt]; congr 2; exact Fin.ext hxv.symm
      obtain ⟨c0, c1, c2, c3, c4, c4l, c4c, c5, c5l, c5c, hcl⟩ := h6 x.val x.isLt
      have hr := hc x.val x.isLt bl ol rfl
      obtain ⟨fn, tmps, assign, body, hy, hR⟩ := hY _ x wr hJs (by rw [List.length_take, backs_len]; omega)
      rw [hcl] at hr hy
      obtain ⟨r0, r1, r2, r3, r4, r5⟩ := (hr.below hnx hbl).six
      have hix : ((n : Int) - 1 - k) = (x.val : Int) := by omega
      have hi1 := x.isLt
      have HBR := Lib.hid hbs
      have HSU := Lib.hid hsucc
      have hw2 : IntKind.i64.wrap ((x.val : Int) - 1) = (n : Int) - 1 - ((k + 1 : Nat) : Int) := by rw [IntWalk.i64_in _ (by omega)]; omega
      have HIX := Lib.hid hxv
      generalize hiv : x.val = i at *
      rw [hix]
      clear hsucc hcl hr hix hxv
      try dsimp only at hy
      gi_wp2
      refine hR.mono ?_
      rintro e W3 (⟨rfl, hJ3, hk3⟩ | ⟨rfl, hJx3⟩)
      · gi_wp2
        go_roundw
        case rel => exact ⟨k + 1, by omega, by first | rfl | (rw [← hw2]) | (congr 1), by rw [HSU.out]; exact hJ3, hnx.trans hk3.1, hk3.2 _ HBR.out⟩
        case measure => have := HIX.out; simp only [intOf]; omega
      · gi_wp2
        refine bodyPost_ret (results_none rfl _ _ _) rfl ?_
        exact ⟨⟨_, rfl⟩, .inr ⟨_, ⟨k + 1, by omega, HSU.out.symm⟩, hJx3⟩⟩
    · obtain rfl : k = n := by omega
      gi_wp2
      go_end0
      exact ⟨⟨_, rfl⟩, .inl ⟨_, rfl, by rw [List.take_of_length_le (by rw [backs_len]; exact Nat.le_refl _)] at hJs; exact hJs⟩⟩

set_option maxHeartbeats 1000000 in
theorem back_in (F : Fence) (m : Nat) (hf : F.fn 109) (hro : F.round = none) (a : Option Addr) (len cap : Nat) (w : World) :
    CallsIn F m Try.prog 109 #[.slice a len cap] w fun e w' => e = .returned (.func (.func 120) #[] #[.pointer (some ⟨w.heap.size, 0, none⟩)]) ∧ w' = w.alloc (.cells #[.slice a len cap] 22) := by
  refine callsIn_of_wp Try.func109 rfl hf ?_ hro
  simp only [Try.ntmps109, List.size_toArray, List.length_cons, List.length_nil, Nat.reduceAdd, Nat.reduceSub, Array.replicate_succ, Array.replicate_zero, List.push_toArray, List.append_toArray, List.nil_append, List.cons_append]
  gi_wp2
  go_ret
  exact ⟨rfl, rfl⟩

/-- slices.Backward of a slice of values: its places, from the last one on, each with its six cells. -/
theorem back_stops (F : Fence) (m : Nat) (hf : F.fn 120) (hro : F.round = none) (hm : 1 ≤ m) {R : Nat → Prop} {ts : List T} {cap : Nat} {a : Option Addr} {cl : Nat → Array Value} (Bs n₀ : Nat) (w : World) (hS : SliceV w R ts a cap cl) (hn₀ : n₀ ≤ w.heap.size) (hBs : w.cell? ⟨Bs, 0, none⟩ = some (.slice a ts.length cap)) (hlow : 0 < ts.length → ∀ bl ol, a = some ⟨bl, ol, none⟩ → bl < n₀) :
    SeqStopsK F m Try.prog 120 #[.pointer (some ⟨Bs, 0, none⟩)] (fun x : Fin ts.length => #[Value.int .i64 (x.val : Int), .agg (cl x.val)]) (KeepBk n₀ Bs) (fun ys => ys = backs ts.length)
      (fun pre => ∃ k, k ≤ ts.length ∧ pre = (backs ts.length).take k) ts.length w := fun l J Jx W hW _ _ hY h0 =>
  back1_in F m hf hro hm l Bs n₀ ts.length cap a cl hS.hdr.le hS.hdr.big (fun hp => by
    obtain ⟨b, o, e, _⟩ := hS.hdr.some hp
    exact ⟨b, o, e, hlow hp b o e⟩) (fun i hi => (hS.each i hi).six) J Jx hY W (cells_frame hW hBs) (fun i hi bl ol e => (hS.rows i hi bl ol e).below hW (by have := hlow (by omega) bl ol e; omega)) h0

/-- What only turns blocks that hold no cells keeps what lies in cells. -/
theorem Lies.keepC {w w' : World} {R : Nat → Prop} {t : T} {cs : Array Value} (h : Lies w R t cs) (hk : ∀ (b : Nat) (o : Obj), w.heap[b]? = some o → o.isCells = true → w'.heap[b]? = w.heap[b]?) : Lies w' R t cs := by
  have hcell : ∀ (b off : Nat) (v : Value), w.cell? ⟨b, off, none⟩ = some v → w'.cell? ⟨b, off, none⟩ = some v := fun b off v hv => by
    have hv2 := hv
    unfold World.cell? at hv
    cases ho : w.heap[b]? with
    | none => rw [ho] at hv; cases hv
    | some o =>
      rw [ho] at hv
      have hc : o.isCells = true := by cases o <;> first | rfl | (cases hv)
      exact (World.cell?_of_block (w := w) (a := ⟨b, off, none⟩) (hk b o ho hc)).trans hv2
  induction h with
  | mk k b n s l m la lc ma mc cl cm hk' hn hs hl hm rl rm ks il im ihl ihm =>
    exact .mk k b n s l m la lc ma mc cl cm hk' hn hs hl hm (fun i hi bl ol e j hj => hcell _ _ _ (rl i hi bl ol e j hj)) (fun i hi bl ol e j hj => hcell _ _ _ (rm i hi bl ol e j hj)) ks ihl ihm

end Go.Proofs.Ytnfmmgbghbaecaa
