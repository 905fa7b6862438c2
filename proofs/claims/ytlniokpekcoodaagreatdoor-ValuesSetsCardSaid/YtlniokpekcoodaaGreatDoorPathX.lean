/-
  Package path's with, walked.
-/
import Derived.Test.YtlniokpekcoodaaGreatDoorSpecsM
import Derived.Deep.DeepCutAuto
import Derived.Deep.RegionHeld3
set_option linter.unusedVariables false
set_option linter.unusedSimpArgs false
namespace Go.Proofs.YtlniokpekcoodaaGreatDoor
open Go.RowKit

theorem three_new (w : World) (A B : Array Value) : Box6 (((w.alloc (.cells A 25)).alloc (.cells B 25)).alloc (.cells zeroV 25)) w.heap.size A ∧ Box6 (((w.alloc (.cells A 25)).alloc (.cells B 25)).alloc (.cells zeroV 25)) (w.heap.size + 1) B ∧ Box6 (((w.alloc (.cells A 25)).alloc (.cells B 25)).alloc (.cells zeroV 25)) (w.heap.size + 2) zeroV ∧
    Thaw (((w.alloc (.cells A 25)).alloc (.cells B 25)).alloc (.cells zeroV 25)) (w.heap.size + 2) ∧ Below w.heap.size w (((w.alloc (.cells A 25)).alloc (.cells B 25)).alloc (.cells zeroV 25)) ∧ (((w.alloc (.cells A 25)).alloc (.cells B 25)).alloc (.cells zeroV 25)).heap.size = w.heap.size + 3 := by
  have e1 : (w.alloc (.cells A 25)).heap.size = w.heap.size + 1 := by simp
  have e2 : ((w.alloc (.cells A 25)).alloc (.cells B 25)).heap.size = w.heap.size + 2 := by simp
  have b1 := Box6.new w A 25
  have b2 := Box6.new (w.alloc (.cells A 25)) B 25
  have b3 := Box6.new ((w.alloc (.cells A 25)).alloc (.cells B 25)) zeroV 25
  have t3 := Thaw.new ((w.alloc (.cells A 25)).alloc (.cells B 25)) zeroV 25
  have f1 := (Below.refl (w.heap.size + 1) (w.alloc (.cells A 25))).alloc (by omega) (.cells B 25)
  have f2 := (Below.refl (w.heap.size + 2) ((w.alloc (.cells A 25)).alloc (.cells B 25))).alloc (by omega) (.cells zeroV 25)
  rw [e1] at b2
  rw [e2] at b3 t3
  exact ⟨(b1.later f1 (by omega)).later f2 (by omega), b2.later f2 (by omega), b3, t3, (((Below.refl _ w).alloc (Nat.le_refl _) _).alloc (by simp) _).alloc (by simp; omega) _, by simp⟩

set_option maxRecDepth 100000 in
set_option maxHeartbeats 4000000 in
theorem with_any {w0 : World} {R RX : Nat → Prop} {t x : T} {cs es : Array Value} (h : Lies w0 R t cs) (w : World) (hx : Lies w RX x es) (key : ByteArray) (hkey : key.size ≤ 140737488355328) (hbig : (t.pairs.length + 1) * 104 ≤ 140737488355328) (hw : Below w0.heap.size w0 w) :
    Calls Tryz.prog 87 #[.agg cs, .string key, .agg es] w fun e w' => ∃ ds, e = .returned (.agg ds) ∧ Lies w' (fun b => (RX b ∧ b < w.heap.size) ∨ w.heap.size ≤ b) (t.put key x) ds ∧ Below w.heap.size w w' := by
  have H := Lib.hid h
  have HX := Lib.hid hx
  obtain ⟨k, b, n, s, la, ll, lc, ma, ml, mc, rfl⟩ := h.six
  obtain ⟨k2, b2, n2, s2, la2, ll2, lc2, ma2, ml2, mc2, rfl⟩ := hx.six
  obtain ⟨q1, q2, q3, q4, q5, q6⟩ := three_new w #[.int .i64 k, .bool b, .int .i64 n, .string s, .slice la ll lc, .slice ma ml mc] #[.int .i64 k2, .bool b2, .int .i64 n2, .string s2, .slice la2 ll2 lc2, .slice ma2 ml2 mc2]
  obtain ⟨dd, hu, hdd⟩ := Tryz.structV
  have DD := Lib.hid hdd
  have HU := Lib.hid hu
  clear hdd hu h hx
  go_enter Tryz.func87, Tryz.ntmps87
  go_upto_region 1 with fail
  generalize (((w.alloc (.cells #[.int .i64 k, .bool b, .int .i64 n, .string s, .slice la ll lc, .slice ma ml mc] 25)).alloc (.cells #[.int .i64 k2, .bool b2, .int .i64 n2, .string s2, .slice la2 ll2 lc2, .slice ma2 ml2 mc2] 25)).alloc (.cells zeroV 25)) = v at q1 q2 q3 q4 q5 q6 ⊢
  have hv := Lib.hid (bstep hw q5 hw.size)
  have HQ5 := Lib.hid q5
  have HQ2 := Lib.hid q2
  have HQ3 := Lib.hid q3
  have HQ4 := Lib.hid q4
  have HQ1 := Lib.hid q1
  have PU := Lib.hid (fun w' (hw' : Below w0.heap.size w0 w') => tPut_new H.out (nil_lies w0 R) key hkey hbig w' hw')
  have SK : Hid (∀ wx : World, Below v.heap.size v wx → wx.cell? ⟨w.heap.size, 0, none⟩ = some (.int .i64 k) ∧ wx.cell? ⟨w.heap.size, 1, none⟩ = some (.bool b) ∧ wx.cell? ⟨w.heap.size, 2, none⟩ = some (.int .i64 n) ∧ wx.cell? ⟨w.heap.size, 3, none⟩ = some (.string s) ∧ wx.cell? ⟨w.heap.size, 4, none⟩ = some (.slice la ll lc) ∧ wx.cell? ⟨w.heap.size, 5, none⟩ = some (.slice ma ml mc)) := fun wx hx => (HQ1.out.later hx (by omega)).six
  have SKC : ∀ (wx : World) (g : Nat) (v0 v1 v2 v3 v4 v5 : Value) (j : Nat), g ≠ w.heap.size → ((((((wx.setCell ⟨g, 0, none⟩ v0).setCell ⟨g, 1, none⟩ v1).setCell ⟨g, 2, none⟩ v2).setCell ⟨g, 3, none⟩ v3).setCell ⟨g, 4, none⟩ v4).setCell ⟨g, 5, none⟩ v5).cell? ⟨w.heap.size, j, none⟩ = wx.cell? ⟨w.heap.size, j, none⟩ := fun wx g v0 v1 v2 v3 v4 v5 j hg => by
    rw [World.cell?_setCell_other _ _ _ _ (by intro e; have := congrArg Addr.block e; simp only at this; omega), World.cell?_setCell_other _ _ _ _ (by intro e; have := congrArg Addr.block e; simp only at this; omega), World.cell?_setCell_other _ _ _ _ (by intro e; have := congrArg Addr.block e; simp only at this; omega), World.cell?_setCell_other _ _ _ _ (by intro e; have := congrArg Addr.block e; simp only at this; omega), World.cell?_setCell_other _ _ _ _ (by intro e; have := congrArg Addr.block e; simp only at this; omega), World.cell?_setCell_other _ _ _ _ (by intro e; have := congrArg Addr.block e; simp only at this; omega)]
  have SK2 : Hid (∀ (wx : World) (g : Nat) (v0 v1 v2 v3 v4 v5 : Value), g ≠ w.heap.size → wx.cell? ⟨w.heap.size, 0, none⟩ = some (.int .i64 k) ∧ wx.cell? ⟨w.heap.size, 1, none⟩ = some (.bool b) ∧ wx.cell? ⟨w.heap.size, 2, none⟩ = some (.int .i64 n) ∧ wx.cell? ⟨w.heap.size, 3, none⟩ = some (.string s) ∧ wx.cell? ⟨w.heap.size, 4, none⟩ = some (.slice la ll lc) ∧ wx.cell? ⟨w.heap.size, 5, none⟩ = some (.slice ma ml mc) → ((((((wx.setCell ⟨g, 0, none⟩ v0).setCell ⟨g, 1, none⟩ v1).setCell ⟨g, 2, none⟩ v2).setCell ⟨g, 3, none⟩ v3).setCell ⟨g, 4, none⟩ v4).setCell ⟨g, 5, none⟩ v5).cell? ⟨w.heap.size, 0, none⟩ = some (.int .i64 k) ∧ ((((((wx.setCell ⟨g, 0, none⟩ v0).setCell ⟨g, 1, none⟩ v1).setCell ⟨g, 2, none⟩ v2).setCell ⟨g, 3, none⟩ v3).setCell ⟨g, 4, none⟩ v4).setCell ⟨g, 5, none⟩ v5).cell? ⟨w.heap.size, 1, none⟩ = some (.bool b) ∧ ((((((wx.setCell ⟨g, 0, none⟩ v0).setCell ⟨g, 1, none⟩ v1).setCell ⟨g, 2, none⟩ v2).setCell ⟨g, 3, none⟩ v3).setCell ⟨g, 4, none⟩ v4).setCell ⟨g, 5, none⟩ v5).cell? ⟨w.heap.size, 2, none⟩ = some (.int .i64 n) ∧ ((((((wx.setCell ⟨g, 0, none⟩ v0).setCell ⟨g, 1, none⟩ v1).setCell ⟨g, 2, none⟩ v2).setCell ⟨g, 3, none⟩ v3).setCell ⟨g, 4, none⟩ v4).setCell ⟨g, 5, none⟩ v5).cell? ⟨w.heap.size, 3, none⟩ = some (.string s) ∧ ((((((wx.setCell ⟨g, 0, none⟩ v0).setCell ⟨g, 1, none⟩ v1).setCell ⟨g, 2, none⟩ v2).setCell ⟨g, 3, none⟩ v3).setCell ⟨g, 4, none⟩ v4).setCell ⟨g, 5, none⟩ v5).cell? ⟨w.heap.size, 4, none⟩ = some (.slice la ll lc) ∧ ((((((wx.setCell ⟨g, 0, none⟩ v0).setCell ⟨g, 1, none⟩ v1).setCell ⟨g, 2, none⟩ v2).setCell ⟨g, 3, none⟩ v3).setCell ⟨g, 4, none⟩ v4).setCell ⟨g, 5, none⟩ v5).cell? ⟨w.heap.size, 5, none⟩ = some (.slice ma ml mc)) := fun wx g v0 v1 v2 v3 v4 v5 hg h => by
    simp only [SKC _ _ _ _ _ _ _ _ _ hg]
    exact h
  clear SKC
  have hv3 : w.heap.size + 3 ≤ v.heap.size := by omega
  clear q1 q2 q3 q4 q5 q6
  go_cut [7] (fun p wx => ∃ (g : Nat) (a : Option Addr) (cap : Nat) (dl : Nat → Array Value), p = .pointer (some ⟨g, 0, none⟩) ∧ Hid (SliceP wx (fun b => w.heap.size + 3 ≤ b) (putR key T.nil t.pairs) a cap dl) ∧ Hid (OwnM wx (w.heap.size + 3) (putR key T.nil t.pairs) a dl) ∧ Hid (Box6 wx g #[.int .i64 5, .bool false, .int .i64 0, .string ⟨#[]⟩, .slice none 0 0, .slice a (putR key T.nil t.pairs).length cap]) ∧ Hid (∀ bl ol, a = some ⟨bl, ol, none⟩ → bl ≠ g) ∧ w.heap.size + 3 ≤ g ∧ g < wx.heap.size ∧ Below v.heap.size v wx)
  case first =>
    go_region_held3 (fun wx : World => wx.cell? ⟨w.heap.size, 0, none⟩ = some (.int .i64 k) ∧ wx.cell? ⟨w.heap.size, 1, none⟩ = some (.bool b) ∧ wx.cell? ⟨w.heap.size, 2, none⟩ = some (.int .i64 n) ∧ wx.cell? ⟨w.heap.size, 3, none⟩ = some (.string s) ∧ wx.cell? ⟨w.heap.size, 4, none⟩ = some (.slice la ll lc) ∧ wx.cell? ⟨w.heap.size, 5, none⟩ = some (.slice ma ml mc))
      (first
        | with_reducible exact SK2.out _ _ _ _ _ _ _ _ (by omega) (SK.out _ hV5)
        | with_reducible exact SK.out _ hV5
        | with_reducible exact SK.out _ (bbox hV5 _ hV5.size)
        | with_reducible exact SK.out _ hV4
        | with_reducible exact SK.out _ (bbox hV4 _ hV4.size)
        | exact SK.out _ (Below.refl _ _).drew
        | exact SK.out _ (bbox (Below.refl _ _) _ (Nat.le_refl _)).drew
        | exact SK.out _ ((bbox (Below.refl _ _) _ (Nat.le_refl _)))
        | fail)
      (first
        | (go_at_call 63
           refine (tNull_any _).mono ?_
           rintro e w4 ⟨rfl, hb4⟩
           first
           | (have hA : Below (v.alloc (.cells zeroV 25)).drew.heap.size (v.alloc (.cells zeroV 25)).drew w4 := by with_reducible exact hb4
              have hV4 : Below v.heap.size v w4 := bunbox (undrew hb4) (Nat.le_refl _) (by simp)
              have hs4 : v.heap.size + 1 ≤ w4.heap.size := by have := hb4.size; simp only [World.size_drew, World.size_alloc] at this; omega
              have Z4 := Lib.hid ((Box6.new v zeroV 25).later (undrew hb4) (by simp))
              have F4 := Lib.hid ((Thaw.new v zeroV 25).later (undrew hb4) (by simp))
              clear hA)
           | have hV4 : Below v.heap.size v w4 := undrew hb4)
        | (go_at_call 118
           first
           | (have hy := Z4
              refine (PU.out _ (bstep hv.out hV4 hv.out.size)).mono ?_
              rintro e w5 ⟨ds, rfl, ⟨a5, c5, dl5, rfl, hS5, hM5⟩, hb5⟩
              have hV5 : Below v.heap.size v w5 := bstep hV4 hb5 hV4.size
              have Z5 := Lib.hid (Z4.out.later hb5 (by omega))
              have hs5 := hb5.size
              obtain ⟨z0, z1, z2, z3, z4, z5⟩ := Z5.out.six
              obtain ⟨f0, f1, f2, f3, f4, f5⟩ := (F4.out.later hb5 (by omega)).six
)
           | (have hy := hV4
              with_reducible refine (PU.out _ (bstep hv.out hV4 hv.out.size)).mono ?_
              rintro e w5 ⟨ds, rfl, ⟨a5, c5, dl5, rfl, hS5, hM5⟩, hb5⟩
              have hV5 : Below v.heap.size v w5 := bstep hV4 hb5 hV4.size
              have hs4 := hV4.size
              have hs5 := hb5.size)
           | (have hy := hV4
              refine (PU.out _ (bbox (bstep hv.out hV4 hv.out.size) (.cells zeroV 25) (bstep hv.out hV4 hv.out.size).size)).mono ?_
              rintro e w5 ⟨ds, rfl, ⟨a5, c5, dl5, rfl, hS5, hM5⟩, hb5⟩
              have hV5 : Below v.heap.size v w5 := bstep hV4 (bunbox hb5 (Nat.le_refl _) (by simp)) hV4.size
              have hs4 := hV4.size
              have hs5 : w4.heap.size + 1 ≤ w5.heap.size := by have := hb5.size; simp only [World.size_alloc] at this; omega
              have Z5 := Lib.hid ((Box6.new w4 zeroV 25).later hb5 (by simp))
              obtain ⟨z0, z1, z2, z3, z4, z5⟩ := Z5.out.six
              obtain ⟨f0, f1, f2, f3, f4, f5⟩ := ((Thaw.new w4 zeroV 25).later hb5 (by simp)).six)))
    · go_wp2_with fail
      go_meet
      case rel =>
        exact ⟨w5.heap.size, a5, c5, dl5, rfl, (hS5.later ((Below.refl _ w5).alloc (Nat.le_refl _) _)).weaken (fun b hb => by omega), (hM5.keep (by simp) (fun b _ hlt => Below.heap_alloc _ _ _ hlt)).lower (by omega), Box6.new w5 _ 25, fun bl ol e => by have := (hM5.free bl ol e).2.1; omega, by omega, by simp, bbox hV5 _ hV5.size⟩
    · go_wp2_with fail
      go_meet
      case rel =>
        exact ⟨w4.heap.size, a5, c5, dl5, rfl, (hS5.keepB (w' := setRow w5 w4.heap.size 0 [.int .i64 5, .bool false, .int .i64 0, .string ⟨#[]⟩, .slice none 0 0, .slice a5 (putR key T.nil t.pairs).length c5]) (fun b hb _ => setRow_heap _ _ _ _ _ (by simp only [World.size_alloc] at hb; omega))).weaken (fun b hb => by simp only [World.size_alloc] at hb; omega),
          (hM5.keep (w' := setRow w5 w4.heap.size 0 [.int .i64 5, .bool false, .int .i64 0, .string ⟨#[]⟩, .slice none 0 0, .slice a5 (putR key T.nil t.pairs).length c5]) (by rw [setRow_size]; exact Nat.le_refl _) (fun b hb _ => setRow_heap _ _ _ _ _ (by simp only [World.size_alloc] at hb; omega))).lower (by simp only [World.size_alloc]; omega),
          Z5.out.store rfl _ _ _ _ _ _, fun bl ol e => by have := (hM5.free bl ol e).1; simp only [World.size_alloc] at this; omega, by omega, by show _ < (setRow w5 w4.heap.size 0 [.int .i64 5, .bool false, .int .i64 0, .string ⟨#[]⟩, .slice none 0 0, .slice a5 (putR key T.nil t.pairs).length c5]).heap.size; rw [setRow_size]; omega, setRow_below w4.heap.size hs4 [.int .i64 5, .bool false, .int .i64 0, .string ⟨#[]⟩, .slice none 0 0, .slice a5 (putR key T.nil t.pairs).length c5] w5 0 hV5⟩
    · go_wp2_with fail
      go_meet
      case rel =>
        exact ⟨v.heap.size, a5, c5, dl5, rfl, (hS5.keepB (w' := setRow w5 v.heap.size 0 [.int .i64 5, .bool false, .int .i64 0, .string ⟨#[]⟩, .slice none 0 0, .slice a5 (putR key T.nil t.pairs).length c5]) (fun b hb _ => setRow_heap _ _ _ _ _ (by omega))).weaken (fun b hb => by omega),
          (hM5.keep (w' := setRow w5 v.heap.size 0 [.int .i64 5, .bool false, .int .i64 0, .string ⟨#[]⟩, .slice none 0 0, .slice a5 (putR key T.nil t.pairs).length c5]) (by rw [setRow_size]; exact Nat.le_refl _) (fun b hb _ => setRow_heap _ _ _ _ _ (by omega))).lower (by omega),
          Z5.out.store rfl _ _ _ _ _ _, fun bl ol e => by have := (hM5.free bl ol e).1; omega, by omega, by show _ < (setRow w5 v.heap.size 0 [.int .i64 5, .bool false, .int .i64 0, .string ⟨#[]⟩, .slice none 0 0, .slice a5 (putR key T.nil t.pairs).length c5]).heap.size; rw [setRow_size]; omega, setRow_below v.heap.size (Nat.le_refl _) [.int .i64 5, .bool false, .int .i64 0, .string ⟨#[]⟩, .slice none 0 0, .slice a5 (putR key T.nil t.pairs).length c5] w5 0 hV5⟩
  case rest =>
    obtain ⟨g, a, cap, dl, rfl, HS, HM, HG, HN, hg3, hgl, hbv⟩ := hcut
    obtain ⟨u, rfl⟩ : ∃ u : World, u = wc := ⟨_, rfl⟩
    obtain ⟨j, hj, hix, hput, hat⟩ := putR_here key x T.nil t.pairs
    have hplen := HS.out.hdr.le
    have hpbig := HS.out.hdr.big
    obtain ⟨bl, ol, rfl, hblB⟩ := HS.out.hdr.some (by omega)
    obtain ⟨hf1, hf2, hf3⟩ := HM.out.free bl ol rfl
    have hrow := HS.out.rows j hj bl ol rfl
    have hkj := HS.out.keys j hj
    have hej := HM.out.each j hj bl ol rfl
    have hpj : (putR key T.nil t.pairs)[j] = (key, T.nil) := by rw [List.getElem?_eq_getElem hj] at hat; exact Option.some.inj hat
    rw [hpj] at hrow hkj hej
    obtain ⟨n0, n1, n2', n3, n4, n4l, n4c, n5, n5l, n5c, hdl⟩ := hej.six
    rw [hdl] at hrow
    obtain ⟨r0, r1, r2, r3, r4, r5, r6⟩ := Row.seven hrow
    obtain ⟨g0, g1, g2, g3, g4, g5⟩ := HG.out.six
    have PL := Lib.hid (place_any (R := fun b => w.heap.size + 3 ≤ b) (t := .mk 5 false 0 ⟨#[]⟩ [] (putR key T.nil t.pairs)) (w0 := u) (Lies.of_slices wfp5 wfp0 empty_sp (empty_sVp _ _) HS.out) key)
    have HX3 := Lib.hid (HQ2.out.later hbv (by omega))
    obtain ⟨x0, x1, x2, x3, x4, x5⟩ := HX3.out.six
    have hbn := HN.out bl ol rfl
    have hix2 : Hid (keyIx (putR key T.nil t.pairs) key = (j : Int)) := hix
    have hf3 := Lib.hid hf3
    have hput := Lib.hid hput
    have hat := Lib.hid hat
    clear hix hpj hdl hrow hkj
    go_upto_region 2 with fail
    refine wp_region_specs2 u 8 (fun i => 12 + i) (fun i x wx => match i with | 0 => x = .pointer (some ⟨g, 5, none⟩) | 1 => x = .slice (some ⟨bl, ol, none⟩) (putR key T.nil t.pairs).length cap | 2 => x = .agg #[.int .i64 5, .bool false, .int .i64 0, .string ⟨#[]⟩, .slice none 0 0, .slice (some ⟨bl, ol, none⟩) (putR key T.nil t.pairs).length cap] | 3 => x = .string key | 4 => x = .int .i64 j | 5 => x = .agg #[.int .i64 k2, .bool b2, .int .i64 n2, .string s2, .slice la2 ll2 lc2, .slice ma2 ml2 mc2] | 6 => x = .pointer (some ⟨bl, ol + j * 7, none⟩) | 7 => x = .pointer (some ⟨bl, ol + j * 7 + 1, none⟩) | _ => True) (fun _ wx => ∃ wb, Below u.heap.size u wb ∧ wx = setRow wb bl (ol + j * 7 + 1) [.int .i64 k2, .bool b2, .int .i64 n2, .string s2, .slice la2 ll2 lc2, .slice ma2 ml2 mc2]) (by kernel_rfl) (by kernel_rfl) ?s1 (Below.refl _ _) ?s2 ?s3 ?s4 ?s5
    case s1 => intro i hi; exact Nat.lt_of_lt_of_le (show 12 + i < 21 by omega) (Nat.le_refl 21)
    case s2 =>
      intro i x w1 w2 hb hU
      match i, hU with
      | 4, h => exact h
      | 0, h | 1, h | 2, h | 3, h | 5, h | 6, h | 7, h => exact h
      | (n + 8), _ => trivial
    case s3 =>
      intro i o ac wb K' ho hi hA hB hdep hK
      have s1 : ac.tmps[1]?.getD undef = .string key := hA.sl (t := 1) (by decide)
      have s5 : ac.tmps[5]?.getD undef = .pointer (some ⟨w.heap.size + 1, 0, none⟩) := hA.sl (t := 5) (by decide)
      have s7 : ac.tmps[7]?.getD undef = .pointer (some ⟨g, 0, none⟩) := hA.sl (t := 7) (by decide)
      have g0 := cells_frame hB g0
      have g1 := cells_frame hB g1
      have g2 := cells_frame hB g2
      have g3 := cells_frame hB g3
      have g4 := cells_frame hB g4
      have g5 := cells_frame hB g5
      have x0 := cells_frame hB x0
      have x1 := cells_frame hB x1
      have x2 := cells_frame hB x2
      have x3 := cells_frame hB x3
      have x4 := cells_frame hB x4
      have x5 := cells_frame hB x5
      have r0 := cells_frame hB r0
      have r1 := cells_frame hB r1
      have r2 := cells_frame hB r2
      have r3 := cells_frame hB r3
      have r4 := cells_frame hB r4
      have r5 := cells_frame hB r5
      have r6 := cells_frame hB r6
      rcases (by omega : i = 0 ∨ i = 1 ∨ i = 2 ∨ i = 3 ∨ i = 4 ∨ i = 5 ∨ i = 6 ∨ i = 7) with rfl | rfl | rfl | rfl | rfl | rfl | rfl | rfl
      · simp at ho
        subst ho
        clear hdep hA
        go_simp
        exact hK _ wb (Below.refl _ _) rfl
      · simp at ho
        subst ho
        have y0 : ac.tmps[12]?.getD undef = .pointer (some ⟨g, 5, none⟩) := hdep { on := 0, ground := .data } (by simp) rfl
        clear hdep hA
        go_simp
        exact hK _ wb (Below.refl _ _) rfl
      · simp at ho
        subst ho
        clear hdep hA
        go_simp
        exact hK _ wb (Below.refl _ _) rfl
      · simp at ho
        subst ho
        clear hdep hA
        go_simp
        exact hK _ wb (Below.refl _ _) rfl
      · simp at ho
        subst ho
        have y2 : ac.tmps[14]?.getD undef = .agg #[.int .i64 5, .bool false, .int .i64 0, .string ⟨#[]⟩, .slice none 0 0, .slice (some ⟨bl, ol, none⟩) (putR key T.nil t.pairs).length cap] := hdep { on := 2, ground := .data } (by simp) rfl
        have y3 : ac.tmps[15]?.getD undef = .string key := hdep { on := 3, ground := .data } (by simp) rfl
        clear hdep hA
        go_simp
        refine (PL.out wb hB).mono ?_
        rintro e w3 ⟨he, hb3⟩
        have he2 := he.trans (congrArg (fun q => Ending.returned (Value.int .i64 q)) hix2.out)
        subst he2
        exact hK _ w3 hb3 rfl
      · simp at ho
        subst ho
        clear hdep hA
        go_simp
        exact hK _ wb (Below.refl _ _) rfl
      · simp at ho
        subst ho
        have y1 : ac.tmps[13]?.getD undef = .slice (some ⟨bl, ol, none⟩) (putR key T.nil t.pairs).length cap := hdep { on := 1, ground := .data } (by simp) rfl
        have y4 : ac.tmps[16]?.getD undef = .int .i64 j := hdep { on := 4, ground := .data } (by simp) rfl
        clear hdep hA
        go_simp
        exact hK _ wb (Below.refl _ _) rfl
      · simp at ho
        subst ho
        have y6 : ac.tmps[18]?.getD undef = .pointer (some ⟨bl, ol + j * 7, none⟩) := hdep { on := 6, ground := .data } (by simp) rfl
        clear hdep hA
        go_simp
        exact hK _ wb (Below.refl _ _) rfl
    case s4 =>
      intro o ac wb K' ho hA hB hU hK
      have s1 : ac.tmps[1]?.getD undef = .string key := hA.sl (t := 1) (by decide)
      have s5 : ac.tmps[5]?.getD undef = .pointer (some ⟨w.heap.size + 1, 0, none⟩) := hA.sl (t := 5) (by decide)
      have s7 : ac.tmps[7]?.getD undef = .pointer (some ⟨g, 0, none⟩) := hA.sl (t := 7) (by decide)
      have g0 := cells_frame hB g0
      have g1 := cells_frame hB g1
      have g2 := cells_frame hB g2
      have g3 := cells_frame hB g3
      have g4 := cells_frame hB g4
      have g5 := cells_frame hB g5
      have x0 := cells_frame hB x0
      have x1 := cells_frame hB x1
      have x2 := cells_frame hB x2
      have x3 := cells_frame hB x3
      have x4 := cells_frame hB x4
      have x5 := cells_frame hB x5
      have r0 := cells_frame hB r0
      have r1 := cells_frame hB r1
      have r2 := cells_frame hB r2
      have r3 := cells_frame hB r3
      have r4 := cells_frame hB r4
      have r5 := cells_frame hB r5
      have r6 := cells_frame hB r6
      simp at ho
      subst ho
      have y7 : ac.tmps[19]?.getD undef = .pointer (some ⟨bl, ol + j * 7 + 1, none⟩) := hU 7 (by omega)
      have y5 : ac.tmps[17]?.getD undef = .agg #[.int .i64 k2, .bool b2, .int .i64 n2, .string s2, .slice la2 ll2 lc2, .slice ma2 ml2 mc2] := hU 5 (by omega)
      clear hU hA
      have fz : Thaw wb bl := fun j => (hB.frozen (p := ⟨bl, j, none⟩) hf2).trans (hf3.out j)
      have f0 := fz (ol + j * 7 + 1)
      have f1 := fz (ol + j * 7 + 1 + 1)
      have f2 := fz (ol + j * 7 + 1 + 2)
      have f3 := fz (ol + j * 7 + 1 + 3)
      have f4 := fz (ol + j * 7 + 1 + 4)
      have f5 := fz (ol + j * 7 + 1 + 5)
      go_simp
      exact hK _ ⟨wb, hB, rfl⟩
    case s5 =>
      intro ac wn hA hF
      have hs : slots 8 (fun i => 12 + i) = [12, 13, 14, 15, 16, 17, 18, 19] := by rfl
      rw [hs] at hA
      have hac := hA.act (fun t ht => by
        have h8 : t = 12 ∨ t = 13 ∨ t = 14 ∨ t = 15 ∨ t = 16 ∨ t = 17 ∨ t = 18 ∨ t = 19 := by simpa using ht
        rcases h8 with rfl | rfl | rfl | rfl | rfl | rfl | rfl | rfl <;> exact Nat.lt_of_lt_of_le (by decide : _ < 21) (Nat.le_refl 21))
      rw [List.foldl_cons, List.foldl_cons, List.foldl_cons, List.foldl_cons, List.foldl_cons, List.foldl_cons, List.foldl_cons, List.foldl_cons, List.foldl_nil] at hac
      generalize sl ac 12 = x12 at hac
      generalize sl ac 13 = x13 at hac
      generalize sl ac 14 = x14 at hac
      generalize sl ac 15 = x15 at hac
      generalize sl ac 16 = x16 at hac
      generalize sl ac 17 = x17 at hac
      generalize sl ac 18 = x18 at hac
      generalize sl ac 19 = x19 at hac
      clear hA hs
      subst hac
      simp only [Act.put, List.setIfInBounds_toArray, List.set_cons_succ, List.set_cons_zero]
      obtain ⟨wb, hbu, rfl⟩ := hF
      have hwb : Below w.heap.size w wb := bstep HQ5.out (bstep hbv hbu hbv.size) HQ5.out.size
      have hwx : Lies wb (fun b => ((RX b ∧ b < w.heap.size) ∨ w.heap.size + 3 ≤ b) ∧ b ≠ bl) x ([.int .i64 k2, .bool b2, .int .i64 n2, .string s2, .slice la2 ll2 lc2, .slice ma2 ml2 mc2] : List Value).toArray := (HX.out.bound.later hwb).weaken fun b hb => ⟨.inl hb, by have := hb.2; omega⟩
      have hs2 : SliceP wb (fun b => (RX b ∧ b < w.heap.size) ∨ w.heap.size + 3 ≤ b) (putR key T.nil t.pairs) (some ⟨bl, ol, none⟩) cap dl := (HS.out.later hbu).weaken fun b hb => .inr hb
      have hl := laid_at hs2 (fun i hi => ((HM.out.each i hi bl ol rfl).later hbu).weaken fun b hb => ⟨.inr hb.1, hb.2⟩) j hj key T.nil x hat.out [.int .i64 k2, .bool b2, .int .i64 n2, .string s2, .slice la2 ll2 lc2, .slice ma2 ml2 mc2] rfl hwx
      rw [← hput.out] at hl
      have hlen : (putR key x t.pairs).length = (putR key T.nil t.pairs).length := by rw [hput.out, List.length_set]
      have hbg := (HG.out.later hbu hgl).other (g2 := bl) (fun e => hbn e.symm) [.int .i64 k2, .bool b2, .int .i64 n2, .string s2, .slice la2 ll2 lc2, .slice ma2 ml2 mc2] (ol + j * 7 + 1)
      have hbz := ((HQ3.out.later hbv (by omega)).later hbu (by have := hbv.size; omega)).other (g2 := bl) (by omega) [.int .i64 k2, .bool b2, .int .i64 n2, .string s2, .slice la2 ll2 lc2, .slice ma2 ml2 mc2] (ol + j * 7 + 1)
      have htz := ((HQ4.out.later hbv (by omega)).later hbu (by have := hbv.size; omega)).store (g2 := bl) [.int .i64 k2, .bool b2, .int .i64 n2, .string s2, .slice la2 ll2 lc2, .slice ma2 ml2 mc2] (ol + j * 7 + 1)
      have hbw := setRow_below bl (by omega) [.int .i64 k2, .bool b2, .int .i64 n2, .string s2, .slice la2 ll2 lc2, .slice ma2 ml2 mc2] wb (ol + j * 7 + 1) hwb
      generalize setRow wb bl (ol + j * 7 + 1) [.int .i64 k2, .bool b2, .int .i64 n2, .string s2, .slice la2 ll2 lc2, .slice ma2 ml2 mc2] = W6 at hl hbg hbz htz hbw ⊢
      have HL := Lib.hid hl
      have HZ6 := Lib.hid hbz
      have HLN := Lib.hid hlen
      obtain ⟨g0, g1, g2, g3, g4, g5⟩ := hbg.six
      obtain ⟨z0, z1, z2, z3, z4, z5⟩ := hbz.six
      obtain ⟨f0, f1, f2, f3, f4, f5⟩ := htz.six
      clear hl hbz htz hbg hlen hs2 hwx
      go_wp2_with fail
      refine ret_cells W6 (w.heap.size + 2) [.int .i64 5, .bool false, .int .i64 0, .string ⟨#[]⟩, .slice none 0 0, .slice (some ⟨bl, ol, none⟩) (putR key T.nil t.pairs).length cap] rfl Tryz.results87 rfl rfl DD.out HU.out Tryz.sizeV (fun i hi => ⟨_, (HZ6.out i hi).trans (Array.getElem?_eq_getElem (show i < 6 from hi))⟩) ?_
      rw [← HLN.out]
      exact ⟨_, rfl, Lies.of_slices (m := putR key x t.pairs) wfp5 wfp0 empty_sp (empty_sVp _ _) ((HL.out.keepB (fun b hb _ => setRow_heap _ _ _ _ _ (by rcases hb with h | h <;> omega))).weaken (fun b hb => by rcases hb with h | h; exact .inl h; exact .inr (by omega))), setRow_below _ (by omega) _ _ _ hbw⟩

end Go.Proofs.YtlniokpekcoodaaGreatDoor
