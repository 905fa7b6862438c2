/-
  Package path's Drop.
-/
import Derived.Test.YtbbpipjadniafaaDoorPathD
import Derived.Test.YtbbpipjadniafaaDoorDrop
set_option linter.unusedVariables false
set_option linter.unusedSimpArgs false
namespace Go.Proofs.YtbbpipjadniafaaDoor
open Go.RowKit

set_option maxRecDepth 100000 in
set_option maxHeartbeats 4000000 in
theorem pDrop_any {w0 : World} {R : Nat → Prop} {t : T} {cs : Array Value} {ks : List ByteArray} {sa : Option Addr} {sc : Nat} (h : Lies w0 R t cs) (hS : SliceS w0 ks sa sc) (hn : ks.length ≤ 1000000) (hsz : t.size ≤ 1000000) (w : World) (hw : Below w0.heap.size w0 w) :
    Calls Tryd.prog 26 #[.agg cs, .slice sa ks.length sc] w (PutIn w (dropAt ks t)) := by
  have HWY := Lib.hid (way_any h hS hn)
  have HF := Lib.hid (find_any h hS)
  have HCL := Lib.hid (tClone_any h)
  have HKS := Lib.hid hS
  have HBG := Lib.hid (way_big (l := ks) hsz)
  have HWL := Lib.hid (way_len ks t)
  have hkle := hS.le
  have hkbig := hS.big
  obtain ⟨k, b, n, s, la, ll, lc, ma, ml, mc, rfl⟩ := h.six
  obtain ⟨dd, hu, hdd⟩ := Tryd.structV
  have DD := Lib.hid hdd
  have HU := Lib.hid hu
  clear hdd hu h hS hsz
  have hq : ((w.alloc (.cells #[.int .i64 k, .bool b, .int .i64 n, .string s, .slice la ll lc, .slice ma ml mc] 36)).alloc (.cells zeroV 36)).heap.size = w.heap.size + 2 := by simp
  have hb1 := ((Below.refl w.heap.size w).alloc (Nat.le_refl _) (.cells #[.int .i64 k, .bool b, .int .i64 n, .string s, .slice la ll lc, .slice ma ml mc] 36)).alloc (by simp) (.cells zeroV 36)
  have b0 : Box6 ((w.alloc (.cells #[.int .i64 k, .bool b, .int .i64 n, .string s, .slice la ll lc, .slice ma ml mc] 36)).alloc (.cells zeroV 36)) w.heap.size #[.int .i64 k, .bool b, .int .i64 n, .string s, .slice la ll lc, .slice ma ml mc] := (Box6.new w _ _).later ((Below.refl (w.heap.size + 1) _).alloc (by simp) _) (by omega)
  have b1 := Box6.new (w.alloc (.cells #[.int .i64 k, .bool b, .int .i64 n, .string s, .slice la ll lc, .slice ma ml mc] 36)) zeroV 36
  have t1 := Thaw.new (w.alloc (.cells #[.int .i64 k, .bool b, .int .i64 n, .string s, .slice la ll lc, .slice ma ml mc] 36)) zeroV 36
  rw [World.size_alloc] at b1 t1
  go_enter Tryd.func26, Tryd.ntmps26
  go_upto_region 1 with fail
  generalize (w.alloc (.cells #[.int .i64 k, .bool b, .int .i64 n, .string s, .slice la ll lc, .slice ma ml mc] 36)).alloc (.cells zeroV 36) = v at hq hb1 b0 b1 t1 ⊢
  have HV := Lib.hid hb1
  have B0 := Lib.hid b0
  have B1 := Lib.hid b1
  have T1 := Lib.hid t1
  obtain ⟨x0, x1, x2, x3, x4, x5⟩ := b0.six
  have hq1 : w.heap.size + 2 ≤ v.heap.size := by omega
  clear b1 t1 b0 hb1 hq
  go_upto_region 2 with (go_at_call 25; refine (HF.out v (bstep hw HV.out hw.size)).mono ?_; rintro e w2 ⟨es, rfl, hL, hb2⟩; obtain ⟨e0, e1, e2, e3, e4, e4l, e4c, e5, e5l, e5c, rfl⟩ := hL.six; have HL := Lib.hid hL; have HB2 := Lib.hid hb2; clear hL hb2)
  have hs2 := HB2.out.size
  have hv3 := HB2.out.alloc HB2.out.size (.cells #[.int .i64 e0, .bool e1, .int .i64 e2, .string e3, .slice e4 e4l e4c, .slice e5 e5l e5c] 36)
  have hsz3 : w.heap.size + 3 ≤ (w2.alloc (.cells #[.int .i64 e0, .bool e1, .int .i64 e2, .string e3, .slice e4 e4l e4c, .slice e5 e5l e5c] 36)).heap.size := by simp; omega
  generalize w2.alloc (.cells #[.int .i64 e0, .bool e1, .int .i64 e2, .string e3, .slice e4 e4l e4c, .slice e5 e5l e5c] 36) = w3 at hv3 hsz3 ⊢
  have HV3 := Lib.hid hv3
  have hw3 := bstep hw (bstep HV.out hv3 HV.out.size) hw.size
  have B3 := Lib.hid (B0.out.later hv3 (by omega))
  have Z3 := Lib.hid (B1.out.later hv3 (by omega))
  have T3 := Lib.hid (T1.out.later hv3 (by omega))
  have HW3 := Lib.hid (bstep HV.out hv3 HV.out.size)
  clear hv3 x0 x1 x2 x3 x4 x5
  obtain ⟨x0, x1, x2, x3, x4, x5⟩ := B3.out.six
  cases hat : atL ks t with
  | none =>
    have HD : Hid (dropAt ks t = t) := by show _ = _; rw [dropAt, hat]; rfl
    have hsome : (none : Option T).isSome = false := rfl
    rw [hsome]
    clear hat hsome
    go_wp2_with (go_at_call 24; refine (HCL.out w3 hw3).mono ?_; rintro e w4 ⟨ds, rfl, hL4, hb4⟩; obtain ⟨d0, d1, d2, d3, d4, d4l, d4c, d5, d5l, d5c, rfl⟩ := hL4.six; have HL4 := Lib.hid hL4; have HB4 := Lib.hid hb4; have Z4 := Lib.hid (Z3.out.later hb4 (by omega)); obtain ⟨z0, z1, z2, z3, z4, z5⟩ := Z4.out.six; obtain ⟨f0, f1, f2, f3, f4, f5⟩ := (T3.out.later hb4 (by omega)).six; clear hL4 hb4 x0 x1 x2 x3 x4 x5)
    rw [HD.out]
    refine ret_cells w4 (w.heap.size + 1) [.int .i64 d0, .bool d1, .int .i64 d2, .string d3, .slice d4 d4l d4c, .slice d5 d5l d5c] rfl Tryd.results26 rfl rfl DD.out HU.out Tryd.sizeV (fun i hi => ⟨_, (Z4.out i hi).trans (Array.getElem?_eq_getElem (show i < 6 from hi))⟩) ?_
    exact ⟨_, rfl, (HL4.out.keep (fun b hb => setRow_heap _ _ _ _ _ (by omega))).weaken (fun b hb => by omega), setRow_below _ (by omega) _ _ _ (bstep HW3.out HB4.out HW3.out.size)⟩
  | some at0 =>
    have HD : Hid (dropAt ks t = dropL ks t) := by show _ = _; rw [dropAt, hat]; rfl
    have hsome : (some at0).isSome = true := rfl
    rw [hsome]
    clear hat hsome
    by_cases hk0 : ks.length = 0
    · have hknil : ks = [] := List.eq_nil_of_length_eq_zero hk0
      have HD2 : Hid (dropAt ks t = T.nil) := by show _ = _; rw [HD.out, hknil, dropL]
      go_wp2_with (go_at_call 13; refine (tNull_any w3).mono ?_; rintro e w4 ⟨rfl, hb4⟩; have HB4 := Lib.hid hb4; have Z4 := Lib.hid (Z3.out.later hb4 (by omega)); obtain ⟨z0, z1, z2, z3, z4, z5⟩ := Z4.out.six; obtain ⟨f0, f1, f2, f3, f4, f5⟩ := (T3.out.later hb4 (by omega)).six; clear hb4 x0 x1 x2 x3 x4 x5)
      rw [HD2.out]
      refine ret_cells w4 (w.heap.size + 1) [.int .i64 0, .bool false, .int .i64 0, .string ⟨#[]⟩, .slice none 0 0, .slice none 0 0] rfl Tryd.results26 rfl rfl DD.out HU.out Tryd.sizeV (fun i hi => ⟨_, (Z4.out i hi).trans (Array.getElem?_eq_getElem (show i < 6 from hi))⟩) ?_
      exact ⟨_, rfl, nil_lies _ _, setRow_below _ (by omega) _ _ _ (bstep HW3.out HB4.out HW3.out.size)⟩
    · obtain ⟨z, hz⟩ : ∃ z, ks.length = z + 1 := ⟨ks.length - 1, by omega⟩
      have hkf : ((ks.length : Int) == 0) = false := by rw [beq_eq_false_iff_ne]; omega
      have hwr : IntKind.i64.wrap ((ks.length : Int) - 1) = (z : Int) := by rw [IntWalk.i64_in _ (by omega)]; omega
      have HZL := Lib.hid hz
      clear hz hk0
      go_upto_region 8 with (go_at_call 23; refine (HWY.out w3 hw3).mono ?_; rintro e u ⟨a, cap, cl, rfl, hSV, hbu⟩; have HSV := Lib.hid hSV; have HBU := Lib.hid hbu; clear hSV hbu x0 x1 x2 x3 x4 x5)
      have hz := HZL.out
      have hzw : z < (wayL ks t).length := by rw [HWL.out]; omega
      have hzk : z < ks.length := by omega
      have hsu := HBU.out.size
      have hwu := Lib.hid (bstep hw3 HBU.out hw3.size)
      have HZ3 := Lib.hid (Z3.out.later HBU.out (by omega))
      have HT3 := Lib.hid (T3.out.later HBU.out (by omega))
      have hcle := HSV.out.hdr.le
      have hcbig := HSV.out.hdr.big
      obtain ⟨bl, ol, rfl, _⟩ := HSV.out.hdr.some (by omega)
      obtain ⟨sb, so, rfl, kc⟩ := HKS.out.at hwu.out hzk
      have hez := HSV.out.each z hzw
      obtain ⟨c0, c1, c2, c3, c4, c4l, c4c, c5, c5l, c5c, hcl⟩ := hez.six
      have hrow := HSV.out.rows z hzw bl ol rfl
      rw [hcl] at hrow hez
      obtain ⟨p0, p1, p2, p3, p4, p5⟩ := hrow.six
      have HDR := Lib.hid (tDrop_any hez ks[z])
      have hzt : ((wayL ks t).take z).length = z := by rw [List.length_take]; omega
      have hSWT : Hid (SliceV u (fun b => R b ∨ w3.heap.size ≤ b) ((wayL ks t).take z) (some ⟨bl, ol, none⟩) cap cl) :=
        ⟨⟨by omega, by rw [hzt]; omega, HSV.out.hdr.none, fun _ => HSV.out.hdr.some (by omega), HSV.out.hdr.max⟩, fun i hi => HSV.out.rows i (by omega), fun i hi => by
          have := HSV.out.each i (by omega)
          simpa using this⟩
      have hzc : z ≤ cap := by omega
      have HRB := Lib.hid (rb_drop ks t z hz hzw hzk)
      clear hez hrow hcl hz
      refine wp_region_specs2 u 14 (fun i => 29 + i) (fun i x wx => match i with | 0 => x = .slice (some ⟨bl, ol, none⟩) (wayL ks t).length cap | 1 => x = .int .i64 (z : Int) | 2 => x = .slice (some ⟨bl, ol, none⟩) z cap | 3 => x = .slice (some ⟨sb, so, none⟩) ks.length sc | 4 => x = .slice (some ⟨bl, ol, none⟩) (wayL ks t).length cap | 5 => x = .int .i64 (z : Int) | 6 => x = .pointer (some ⟨bl, ol + z * 6, none⟩) | 7 => x = .agg #[.int .i64 c0, .bool c1, .int .i64 c2, .string c3, .slice c4 c4l c4c, .slice c5 c5l c5c] | 8 => x = .slice (some ⟨sb, so, none⟩) ks.length sc | 9 => x = .int .i64 (z : Int) | 10 => x = .pointer (some ⟨sb, so + z, none⟩) | 11 => x = .string ks[z] | 12 => ∃ ds : Array Value, x = .agg ds ∧ Lies wx (fun b => u.heap.size ≤ b) ((wayL ks t)[z].drop ks[z]) ds | 13 => ∃ ds : Array Value, x = .agg ds ∧ Lies wx (fun b => u.heap.size ≤ b) (dropL ks t) ds | _ => True) (fun _ wx => ∃ (wb : World) (ds : Array Value), Below u.heap.size u wb ∧ Lies wb (fun b => u.heap.size ≤ b) (dropL ks t) ds ∧ wx = setRow wb (w.heap.size + 1) 0 ds.toList) (by kernel_rfl) (by kernel_rfl) ?s1 (Below.refl _ _) ?s2 ?s3 ?s4 ?s5
      case s1 => intro i hi; exact Nat.lt_of_lt_of_le (show 29 + i < 43 by omega) (Nat.le_refl 43)
      case s2 =>
        intro i x w1 w2 hb hU
        match i, hU with
        | 12, ⟨ds, e, hL⟩ => exact ⟨ds, e, hL.later hb⟩
        | 13, ⟨ds, e, hL⟩ => exact ⟨ds, e, hL.later hb⟩
        | 0, h | 1, h | 2, h | 3, h | 4, h | 5, h | 6, h | 7, h | 8, h | 9, h | 10, h | 11, h => exact h
        | (n + 14), _ => trivial
      case s3 =>
        intro i o ac wb K' ho hi hA hB hdep hK
        have sv1 : ac.tmps[1]?.getD undef = .slice (some ⟨sb, so, none⟩) ks.length sc := hA.sl (t := 1) (by decide)
        have sv4 : ac.tmps[4]?.getD undef = .pointer (some ⟨w.heap.size + 1, 0, none⟩) := hA.sl (t := 4) (by decide)
        have sv7 : ac.tmps[7]?.getD undef = .slice (some ⟨bl, ol, none⟩) (wayL ks t).length cap := hA.sl (t := 7) (by decide)
        have sv8 : ac.tmps[8]?.getD undef = .int .i64 (z : Int) := hA.sl (t := 8) (by decide)
        have p0 := cells_frame hB p0
        have p1 := cells_frame hB p1
        have p2 := cells_frame hB p2
        have p3 := cells_frame hB p3
        have p4 := cells_frame hB p4
        have p5 := cells_frame hB p5
        have kc := cells_frame hB kc
        rcases (by omega : i = 0 ∨ i = 1 ∨ i = 2 ∨ i = 3 ∨ i = 4 ∨ i = 5 ∨ i = 6 ∨ i = 7 ∨ i = 8 ∨ i = 9 ∨ i = 10 ∨ i = 11 ∨ i = 12 ∨ i = 13) with rfl | rfl | rfl | rfl | rfl | rfl | rfl | rfl | rfl | rfl | rfl | rfl | rfl | rfl
        · simp at ho
          subst ho
          clear hdep hA
          go_simp
          exact hK _ wb (Below.refl _ _) rfl
        · simp at ho
          subst ho
          clear hdep hA
          go_simp
          exact hK _ wb (Below.refl _ _) rfl
        · simp at ho
          subst ho
          have y0 : ac.tmps[29]?.getD undef = .slice (some ⟨bl, ol, none⟩) (wayL ks t).length cap := hdep { on := 0, ground := .data } (by simp) rfl
          have y1 : ac.tmps[30]?.getD undef = .int .i64 (z : Int) := hdep { on := 1, ground := .data } (by simp) rfl
          clear hdep hA
          go_simp
          exact hK _ wb (Below.refl _ _) rfl
        · simp at ho
          subst ho
          clear hdep hA
          go_simp
          exact hK _ wb (Below.refl _ _) rfl
        · simp at ho
          subst ho
          clear hdep hA
          go_simp
          exact hK _ wb (Below.refl _ _) rfl
        · simp at ho
          subst ho
          clear hdep hA
          go_simp
          exact hK _ wb (Below.refl _ _) rfl
        · simp at ho
          subst ho
          have y4 : ac.tmps[33]?.getD undef = .slice (some ⟨bl, ol, none⟩) (wayL ks t).length cap := hdep { on := 4, ground := .data } (by simp) rfl
          have y5 : ac.tmps[34]?.getD undef = .int .i64 (z : Int) := hdep { on := 5, ground := .data } (by simp) rfl
          clear hdep hA
          go_simp
          exact hK _ wb (Below.refl _ _) rfl
        · simp at ho
          subst ho
          have y6 : ac.tmps[35]?.getD undef = .pointer (some ⟨bl, ol + z * 6, none⟩) := hdep { on := 6, ground := .data } (by simp) rfl
          clear hdep hA
          go_simp
          exact hK _ wb (Below.refl _ _) rfl
        · simp at ho
          subst ho
          clear hdep hA
          go_simp
          exact hK _ wb (Below.refl _ _) rfl
        · simp at ho
          subst ho
          clear hdep hA
          go_simp
          exact hK _ wb (Below.refl _ _) rfl
        · simp at ho
          subst ho
          have y8 : ac.tmps[37]?.getD undef = .slice (some ⟨sb, so, none⟩) ks.length sc := hdep { on := 8, ground := .data } (by simp) rfl
          have y9 : ac.tmps[38]?.getD undef = .int .i64 (z : Int) := hdep { on := 9, ground := .data } (by simp) rfl
          clear hdep hA
          go_simp
          exact hK _ wb (Below.refl _ _) rfl
        · simp at ho
          subst ho
          have y10 : ac.tmps[39]?.getD undef = .pointer (some ⟨sb, so + z, none⟩) := hdep { on := 10, ground := .data } (by simp) rfl
          clear hdep hA
          go_simp
          exact hK _ wb (Below.refl _ _) rfl
        · simp at ho
          subst ho
          have y7 : ac.tmps[36]?.getD undef = .agg #[.int .i64 c0, .bool c1, .int .i64 c2, .string c3, .slice c4 c4l c4c, .slice c5 c5l c5c] := hdep { on := 7, ground := .data } (by simp) rfl
          have y11 : ac.tmps[40]?.getD undef = .string ks[z] := hdep { on := 11, ground := .data } (by simp) rfl
          clear hdep hA
          go_simp
          refine (HDR.out wb hB).mono ?_
          rintro e w3 ⟨ds, rfl, hL, hb3⟩
          exact hK _ w3 hb3 ⟨ds, rfl, hL.weaken fun b hb => Nat.le_trans hB.size hb⟩
        · simp at ho
          subst ho
          have y2 : ac.tmps[31]?.getD undef = .slice (some ⟨bl, ol, none⟩) z cap := hdep { on := 2, ground := .data } (by simp) rfl
          have y3 : ac.tmps[32]?.getD undef = .slice (some ⟨sb, so, none⟩) ks.length sc := hdep { on := 3, ground := .data } (by simp) rfl
          obtain ⟨ds, y12, hLy12⟩ := hdep { on := 12, ground := .data } (by simp) rfl
          obtain ⟨d0, d1, d2, d3, d4, d4l, d4c, d5, d5l, d5c, rfl⟩ := hLy12.six
          have y12 : ac.tmps[41]?.getD undef = _ := y12
          clear hdep hA
          go_simp
          have hr := rebuilt_any (ts := (wayL ks t).take z) (hSWT.out.later hB) (HKS.out.later (bstep hwu.out hB hwu.out.size)) hLy12 (by rw [hzt]; omega) (fun v hv => HBG.out v (List.mem_of_mem_take hv))
          rw [hzt] at hr
          refine hr.mono ?_
          rintro e w3 ⟨ds, rfl, hL, hb3⟩
          rw [HRB.out] at hL
          exact hK _ w3 hb3 ⟨ds, rfl, hL.weaken fun b hb => by
          have := hB.size
          rcases hb with h | h
          · exact h.1
          · omega⟩
      case s4 =>
        intro o ac wb K' ho hA hB hU hK
        have sv1 : ac.tmps[1]?.getD undef = .slice (some ⟨sb, so, none⟩) ks.length sc := hA.sl (t := 1) (by decide)
        have sv4 : ac.tmps[4]?.getD undef = .pointer (some ⟨w.heap.size + 1, 0, none⟩) := hA.sl (t := 4) (by decide)
        have sv7 : ac.tmps[7]?.getD undef = .slice (some ⟨bl, ol, none⟩) (wayL ks t).length cap := hA.sl (t := 7) (by decide)
        have sv8 : ac.tmps[8]?.getD undef = .int .i64 (z : Int) := hA.sl (t := 8) (by decide)
        have p0 := cells_frame hB p0
        have p1 := cells_frame hB p1
        have p2 := cells_frame hB p2
        have p3 := cells_frame hB p3
        have p4 := cells_frame hB p4
        have p5 := cells_frame hB p5
        have kc := cells_frame hB kc
        simp at ho
        subst ho
        obtain ⟨ds, y13, hLy13⟩ := hU 13 (by omega)
        obtain ⟨r0, r1, r2, r3, r4, r4l, r4c, r5, r5l, r5c, rfl⟩ := hLy13.six
        have y13 : ac.tmps[42]?.getD undef = _ := y13
        clear hU hA
        obtain ⟨z0, z1, z2, z3, z4, z5⟩ := (HZ3.out.later hB (by omega)).six
        obtain ⟨f0, f1, f2, f3, f4, f5⟩ := (HT3.out.later hB (by omega)).six
        go_simp
        exact hK _ ⟨wb, _, hB, hLy13, rfl⟩
      case s5 =>
        intro ac wn hA hF
        have hs : slots 14 (fun i => 29 + i) = [29, 30, 31, 32, 33, 34, 35, 36, 37, 38, 39, 40, 41, 42] := by rfl
        rw [hs] at hA
        have hac := hA.act (fun t ht => by
          have h8 : t = 29 ∨ t = 30 ∨ t = 31 ∨ t = 32 ∨ t = 33 ∨ t = 34 ∨ t = 35 ∨ t = 36 ∨ t = 37 ∨ t = 38 ∨ t = 39 ∨ t = 40 ∨ t = 41 ∨ t = 42 := by simpa using ht
          rcases h8 with rfl | rfl | rfl | rfl | rfl | rfl | rfl | rfl | rfl | rfl | rfl | rfl | rfl | rfl <;> exact Nat.lt_of_lt_of_le (by decide : _ < 43) (Nat.le_refl 43))
        rw [List.foldl_cons, List.foldl_cons, List.foldl_cons, List.foldl_cons, List.foldl_cons, List.foldl_cons, List.foldl_cons, List.foldl_cons, List.foldl_cons, List.foldl_cons, List.foldl_cons, List.foldl_cons, List.foldl_cons, List.foldl_cons, List.foldl_nil] at hac
        generalize sl ac 29 = x29 at hac
        generalize sl ac 30 = x30 at hac
        generalize sl ac 31 = x31 at hac
        generalize sl ac 32 = x32 at hac
        generalize sl ac 33 = x33 at hac
        generalize sl ac 34 = x34 at hac
        generalize sl ac 35 = x35 at hac
        generalize sl ac 36 = x36 at hac
        generalize sl ac 37 = x37 at hac
        generalize sl ac 38 = x38 at hac
        generalize sl ac 39 = x39 at hac
        generalize sl ac 40 = x40 at hac
        generalize sl ac 41 = x41 at hac
        generalize sl ac 42 = x42 at hac
        clear hA hs
        subst hac
        simp only [Act.put, List.setIfInBounds_toArray, List.set_cons_succ, List.set_cons_zero]
        obtain ⟨wb, ds, hbu, hLd, hwn⟩ := hF
        have HWN := Lib.hid hwn
        clear hwn
        obtain ⟨d0, d1, d2, d3, d4, d4l, d4c, d5, d5l, d5c, rfl⟩ := hLd.six
        have hz4 := HZ3.out.later hbu (by omega)
        go_wp2_with fail
        rw [HD.out]
        refine ret_cells wb (w.heap.size + 1) [.int .i64 d0, .bool d1, .int .i64 d2, .string d3, .slice d4 d4l d4c, .slice d5 d5l d5c] HWN.out Tryd.results26 rfl rfl DD.out HU.out Tryd.sizeV (fun i hi => ⟨_, (hz4 i hi).trans (Array.getElem?_eq_getElem (show i < 6 from hi))⟩) ?_
        exact ⟨_, rfl, (hLd.keep (fun b hb => setRow_heap _ _ _ _ _ (by omega))).weaken (fun b hb => by omega), setRow_below _ (by omega) _ _ _ (bstep HW3.out (bstep HBU.out hbu HBU.out.size) HW3.out.size)⟩

end Go.Proofs.YtbbpipjadniafaaDoor
