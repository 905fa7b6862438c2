/-
  Package path's Prune.
-/
import Derived.Test.YtbbpipjadniafaaDoorPathE
set_option linter.unusedVariables false
set_option linter.unusedSimpArgs false
namespace Go.Proofs.YtbbpipjadniafaaDoor
open Go.RowKit

theorem Lies.six_map {w : World} {R : Nat → Prop} {t : T} {cs : Array Value} (h : Lies w R t cs) :
    ∃ (k : Int) (b : Bool) (n : Int) (s : ByteArray) (la : Option Addr) (ll lc : Nat) (ma : Option Addr) (mc : Nat), cs = #[.int .i64 k, .bool b, .int .i64 n, .string s, .slice la ll lc, .slice ma t.map.length mc] := by
  cases h; exact ⟨_, _, _, _, _, _, _, _, _, rfl⟩
theorem prune_small {ws : List T} {j : Nat} (h : j ≤ 1) : pruneN ws j = j := by
  rcases (by omega : j = 0 ∨ j = 1) with rfl | rfl <;> rfl
theorem prune_more {ws : List T} {p : Nat} (h1 : 1 ≤ p) (h : p < ws.length) : pruneN ws (p + 1) = if ws[p].map.length = 1 then pruneN ws p else p + 1 := by
  obtain ⟨q, rfl⟩ : ∃ q, p = q + 1 := ⟨p - 1, by omega⟩
  rw [pruneN, List.getElem?_eq_getElem h]
  simp

set_option maxRecDepth 100000 in
set_option maxHeartbeats 8000000 in
theorem pPrune_any {w0 : World} {R : Nat → Prop} {t : T} {cs : Array Value} {ks : List ByteArray} {sa : Option Addr} {sc : Nat} (h : Lies w0 R t cs) (hS : SliceS w0 ks sa sc) (hn : ks.length ≤ 1000000) (hsz : t.size ≤ 1000000) (w : World) (hw : Below w0.heap.size w0 w) :
    Calls Tryd.prog 16 #[.agg cs, .slice sa ks.length sc] w (PutIn w (pruneAt ks t)) := by
  have HDA : Hid (∀ (j : Nat), j ≤ ks.length → ∀ w, Below w0.heap.size w0 w → Calls Tryd.prog 26 #[.agg cs, .slice sa j sc] w (PutIn w (dropAt (ks.take j) t))) := fun j hj w hw => by
    have e : (ks.take j).length = j := by rw [List.length_take]; omega
    have := pDrop_any h (hS.take j hj) (by omega) hsz w hw
    rw [e] at this
    exact this
  have HWY := Lib.hid (way_any h hS hn)
  have HF := Lib.hid (find_any h hS)
  have HCL := Lib.hid (tClone_any h)
  have HKS := Lib.hid hS
  have HBG := Lib.hid (way_big (l := ks) hsz)
  have HWL := Lib.hid (way_len ks t)
  have hkle := hS.le
  have hkbig := hS.big
  obtain ⟨k, b, n, s, la, ll, lc, ma, ml, mc, rfl⟩ := h.six
  obtain ⟨dd, hu, hdd⟩ := Tryd.structV
  have DD := Lib.hid hdd
  have HU := Lib.hid hu
  clear hdd hu h hS hsz
  have hq : ((w.alloc (.cells #[.int .i64 k, .bool b, .int .i64 n, .string s, .slice la ll lc, .slice ma ml mc] 36)).alloc (.cells zeroV 36)).heap.size = w.heap.size + 2 := by simp
  have hb1 := ((Below.refl w.heap.size w).alloc (Nat.le_refl _) (.cells #[.int .i64 k, .bool b, .int .i64 n, .string s, .slice la ll lc, .slice ma ml mc] 36)).alloc (by simp) (.cells zeroV 36)
  have b0 : Box6 ((w.alloc (.cells #[.int .i64 k, .bool b, .int .i64 n, .string s, .slice la ll lc, .slice ma ml mc] 36)).alloc (.cells zeroV 36)) w.heap.size #[.int .i64 k, .bool b, .int .i64 n, .string s, .slice la ll lc, .slice ma ml mc] := (Box6.new w _ _).later ((Below.refl (w.heap.size + 1) _).alloc (by simp) _) (by omega)
  have b1 := Box6.new (w.alloc (.cells #[.int .i64 k, .bool b, .int .i64 n, .string s, .slice la ll lc, .slice ma ml mc] 36)) zeroV 36
  have t1 := Thaw.new (w.alloc (.cells #[.int .i64 k, .bool b, .int .i64 n, .string s, .slice la ll lc, .slice ma ml mc] 36)) zeroV 36
  rw [World.size_alloc] at b1 t1
  go_enter Tryd.func16, Tryd.ntmps16
  go_upto_region 1 with fail
  generalize (w.alloc (.cells #[.int .i64 k, .bool b, .int .i64 n, .string s, .slice la ll lc, .slice ma ml mc] 36)).alloc (.cells zeroV 36) = v at hq hb1 b0 b1 t1 ⊢
  have HV := Lib.hid hb1
  have B0 := Lib.hid b0
  have B1 := Lib.hid b1
  have T1 := Lib.hid t1
  obtain ⟨x0, x1, x2, x3, x4, x5⟩ := b0.six
  have hq1 : w.heap.size + 2 ≤ v.heap.size := by omega
  clear b1 t1 b0 hb1 hq
  go_upto_region 2 with (go_at_call 25; refine (HF.out v (bstep hw HV.out hw.size)).mono ?_; rintro e w2 ⟨es, rfl, hL, hb2⟩; obtain ⟨e0, e1, e2, e3, e4, e4l, e4c, e5, e5l, e5c, rfl⟩ := hL.six; have HL := Lib.hid hL; have HB2 := Lib.hid hb2; clear hL hb2)
  have hs2 := HB2.out.size
  have hv3 := HB2.out.alloc HB2.out.size (.cells #[.int .i64 e0, .bool e1, .int .i64 e2, .string e3, .slice e4 e4l e4c, .slice e5 e5l e5c] 36)
  have hsz3 : w.heap.size + 3 ≤ (w2.alloc (.cells #[.int .i64 e0, .bool e1, .int .i64 e2, .string e3, .slice e4 e4l e4c, .slice e5 e5l e5c] 36)).heap.size := by simp; omega
  generalize w2.alloc (.cells #[.int .i64 e0, .bool e1, .int .i64 e2, .string e3, .slice e4 e4l e4c, .slice e5 e5l e5c] 36) = w3 at hv3 hsz3 ⊢
  have HV3 := Lib.hid hv3
  have hw3 := bstep hw (bstep HV.out hv3 HV.out.size) hw.size
  have B3 := Lib.hid (B0.out.later hv3 (by omega))
  have Z3 := Lib.hid (B1.out.later hv3 (by omega))
  have T3 := Lib.hid (T1.out.later hv3 (by omega))
  have HW3 := Lib.hid (bstep HV.out hv3 HV.out.size)
  clear hv3 x0 x1 x2 x3 x4 x5
  obtain ⟨x0, x1, x2, x3, x4, x5⟩ := B3.out.six
  cases hat : atL ks t with
  | none =>
    have HD : Hid (pruneAt ks t = t) := by show _ = _; rw [pruneAt, hat]; rfl
    have hsome : (none : Option T).isSome = false := rfl
    rw [hsome]
    clear hat hsome
    go_wp2_with (go_at_call 24; refine (HCL.out w3 hw3).mono ?_; rintro e w4 ⟨ds, rfl, hL4, hb4⟩; obtain ⟨d0, d1, d2, d3, d4, d4l, d4c, d5, d5l, d5c, rfl⟩ := hL4.six; have HL4 := Lib.hid hL4; have HB4 := Lib.hid hb4; have Z4 := Lib.hid (Z3.out.later hb4 (by omega)); obtain ⟨z0, z1, z2, z3, z4, z5⟩ := Z4.out.six; obtain ⟨f0, f1, f2, f3, f4, f5⟩ := (T3.out.later hb4 (by omega)).six; clear hL4 hb4 x0 x1 x2 x3 x4 x5)
    rw [HD.out]
    refine ret_cells w4 (w.heap.size + 1) [.int .i64 d0, .bool d1, .int .i64 d2, .string d3, .slice d4 d4l d4c, .slice d5 d5l d5c] rfl Tryd.results16 rfl rfl DD.out HU.out Tryd.sizeV (fun i hi => ⟨_, (Z4.out i hi).trans (Array.getElem?_eq_getElem (show i < 6 from hi))⟩) ?_
    exact ⟨_, rfl, (HL4.out.keep (fun b hb => setRow_heap _ _ _ _ _ (by omega))).weaken (fun b hb => by omega), setRow_below _ (by omega) _ _ _ (bstep HW3.out HB4.out HW3.out.size)⟩
  | some at0 =>
    have HP : Hid (pruneAt ks t = dropAt (ks.take (pruneN (wayL ks t) ks.length)) t) := by show _ = _; rw [pruneAt, hat]; rfl
    have hsome : (some at0).isSome = true := rfl
    rw [hsome]
    clear hat hsome
    go_upto_region 5 with (go_at_call 23; refine (HWY.out w3 hw3).mono ?_; rintro e u ⟨a, cap, cl, rfl, hSV, hbu⟩; have HSV := Lib.hid hSV; have HBU := Lib.hid hbu; clear hSV hbu)
    have hsu := HBU.out.size
    have hwu := Lib.hid (bstep hw3 HBU.out hw3.size)
    have HX3 := Lib.hid (B3.out.later HBU.out (by omega))
    have HZ3 := Lib.hid (Z3.out.later HBU.out (by omega))
    have HT3 := Lib.hid (T3.out.later HBU.out (by omega))
    have hcle : ks.length ≤ cap := by have := HSV.out.hdr.le; rw [HWL.out] at this; exact this
    have hcbig : ks.length * 88 ≤ 140737488355328 := by have := HSV.out.hdr.big; rw [HWL.out] at this; exact this
    clear x0 x1 x2 x3 x4 x5
    rw [HWL.out]
    go_wp2_with fail
    go_loopw [8] (fun v8 wr => ∃ j : Nat, j ≤ ks.length ∧ v8 = .int .i64 (j : Int) ∧ Hid (pruneN (wayL ks t) ks.length = pruneN (wayL ks t) j) ∧ wr = u) (fun v8 _ => (intOf v8).toNat)
    case atStart => exact ⟨ks.length, Nat.le_refl _, rfl, rfl, rfl⟩
    case round =>
      obtain ⟨j, hj, rfl, HPN, rfl⟩ := hrel
      obtain ⟨u, rfl⟩ : ∃ u : World, u = wr := ⟨_, rfl⟩
      obtain ⟨x0, x1, x2, x3, x4, x5⟩ := HX3.out.six
      have fin : Hid (pruneN (wayL ks t) j = j → Hid (pruneAt ks t = dropAt (ks.take j) t)) := fun e => by show _ = _; rw [HP.out, HPN.out, e]
      have hjsc : j ≤ sc := by omega
      by_cases hj1 : j ≤ 1
      · have HPR := fin.out (prune_small hj1)
        have HDR := Lib.hid (HDA.out j hj)
        have hg : decide ((1 : Int) < (j : Int)) = false := by simp; omega
        have hg2 : ((j : Int) ≤ 1) = True := by simp; omega
        clear fin
        go_upto_region 8 with fail
        cases sa with
        | some sa0 =>
          obtain ⟨sb, so, sp⟩ := sa0
          refine wp_region_specs2 u 5 (fun i => 38 + i) (fun i x wx => match i with | 0 => x = .agg #[.int .i64 k, .bool b, .int .i64 n, .string s, .slice la ll lc, .slice ma ml mc] | 1 => x = .slice (some ⟨sb, so, sp⟩) ks.length sc | 2 => x = .int .i64 (j : Int) | 3 => x = .slice (some ⟨sb, so, sp⟩) j sc | 4 => ∃ ds : Array Value, x = .agg ds ∧ Lies wx (fun b => u.heap.size ≤ b) (dropAt (ks.take j) t) ds | _ => True) (fun _ wx => ∃ (wb : World) (ds : Array Value), Below u.heap.size u wb ∧ Lies wb (fun b => u.heap.size ≤ b) (dropAt (ks.take j) t) ds ∧ wx = setRow wb (w.heap.size + 1) 0 ds.toList) (by kernel_rfl) (by kernel_rfl) ?s1 (Below.refl _ _) ?s2 ?s3 ?s4 ?s5
          case s1 => intro i hi; exact Nat.lt_of_lt_of_le (show 38 + i < 43 by omega) (Nat.le_refl 43)
          case s2 =>
            intro i x w1 w2 hb hU
            match i, hU with
            | 4, ⟨ds, e, hL⟩ => exact ⟨ds, e, hL.later hb⟩
            | 0, h | 1, h | 2, h | 3, h => exact h
            | (n + 5), _ => trivial
          case s3 =>
            intro i o ac wb K' ho hi hA hB hdep hK
            have sv1 : ac.tmps[1]?.getD undef = .slice (some ⟨sb, so, sp⟩) ks.length sc := hA.sl (t := 1) (by decide)
            have sv2 : ac.tmps[2]?.getD undef = .pointer (some ⟨w.heap.size, 0, none⟩) := hA.sl (t := 2) (by decide)
            have sv4 : ac.tmps[4]?.getD undef = .pointer (some ⟨w.heap.size + 1, 0, none⟩) := hA.sl (t := 4) (by decide)
            have sv8 : ac.tmps[8]?.getD undef = .int .i64 (j : Int) := hA.sl (t := 8) (by decide)
            have x0 := cells_frame hB x0
            have x1 := cells_frame hB x1
            have x2 := cells_frame hB x2
            have x3 := cells_frame hB x3
            have x4 := cells_frame hB x4
            have x5 := cells_frame hB x5
            rcases (by omega : i = 0 ∨ i = 1 ∨ i = 2 ∨ i = 3 ∨ i = 4) with rfl | rfl | rfl | rfl | rfl
            · simp at ho
              subst ho
              clear hdep hA
              go_simp
              exact hK _ wb (Below.refl _ _) rfl
            · simp at ho
              subst ho
              clear hdep hA
              go_simp
              exact hK _ wb (Below.refl _ _) rfl
            · simp at ho
              subst ho
              clear hdep hA
              go_simp
              exact hK _ wb (Below.refl _ _) rfl
            · simp at ho
              subst ho
              have y1 : ac.tmps[39]?.getD undef = .slice (some ⟨sb, so, sp⟩) ks.length sc := hdep { on := 1, ground := .data } (by simp) rfl
              have y2 : ac.tmps[40]?.getD undef = .int .i64 (j : Int) := hdep { on := 2, ground := .data } (by simp) rfl
              clear hdep hA
              go_simp
              exact hK _ wb (Below.refl _ _) rfl
            · simp at ho
              subst ho
              have y0 : ac.tmps[38]?.getD undef = .agg #[.int .i64 k, .bool b, .int .i64 n, .string s, .slice la ll lc, .slice ma ml mc] := hdep { on := 0, ground := .data } (by simp) rfl
              have y3 : ac.tmps[41]?.getD undef = .slice (some ⟨sb, so, sp⟩) j sc := hdep { on := 3, ground := .data } (by simp) rfl
              clear hdep hA
              go_simp
              refine (HDR.out wb (bstep hwu.out hB hwu.out.size)).mono ?_
              rintro e w3 ⟨ds, rfl, hL, hb3⟩
              exact hK _ w3 hb3 ⟨ds, rfl, hL.weaken fun b hb => Nat.le_trans hB.size hb⟩
          case s4 =>
            intro o ac wb K' ho hA hB hU hK
            have sv1 : ac.tmps[1]?.getD undef = .slice (some ⟨sb, so, sp⟩) ks.length sc := hA.sl (t := 1) (by decide)
            have sv2 : ac.tmps[2]?.getD undef = .pointer (some ⟨w.heap.size, 0, none⟩) := hA.sl (t := 2) (by decide)
            have sv4 : ac.tmps[4]?.getD undef = .pointer (some ⟨w.heap.size + 1, 0, none⟩) := hA.sl (t := 4) (by decide)
            have sv8 : ac.tmps[8]?.getD undef = .int .i64 (j : Int) := hA.sl (t := 8) (by decide)
            have x0 := cells_frame hB x0
            have x1 := cells_frame hB x1
            have x2 := cells_frame hB x2
            have x3 := cells_frame hB x3
            have x4 := cells_frame hB x4
            have x5 := cells_frame hB x5
            simp at ho
            subst ho
            obtain ⟨ds, y4, hLy4⟩ := hU 4 (by omega)
            obtain ⟨d0, d1, d2, d3, d4, d4l, d4c, d5, d5l, d5c, rfl⟩ := hLy4.six
            have y4 : ac.tmps[42]?.getD undef = _ := y4
            clear hU hA
            obtain ⟨z0, z1, z2, z3, z4, z5⟩ := (HZ3.out.later hB (by omega)).six
            obtain ⟨f0, f1, f2, f3, f4, f5⟩ := (HT3.out.later hB (by omega)).six
            go_simp
            exact hK _ ⟨wb, _, hB, hLy4, rfl⟩
          case s5 =>
            intro ac wn hA hF
            have hs : slots 5 (fun i => 38 + i) = [38, 39, 40, 41, 42] := by rfl
            rw [hs] at hA
            have hac := hA.act (fun t ht => by
              have h8 : t = 38 ∨ t = 39 ∨ t = 40 ∨ t = 41 ∨ t = 42 := by simpa using ht
              rcases h8 with rfl | rfl | rfl | rfl | rfl <;> exact Nat.lt_of_lt_of_le (by decide : _ < 43) (Nat.le_refl 43))
            rw [List.foldl_cons, List.foldl_cons, List.foldl_cons, List.foldl_cons, List.foldl_cons, List.foldl_nil] at hac
            generalize sl ac 38 = x38 at hac
            generalize sl ac 39 = x39 at hac
            generalize sl ac 40 = x40 at hac
            generalize sl ac 41 = x41 at hac
            generalize sl ac 42 = x42 at hac
            clear hA hs
            subst hac
            simp only [Act.put, List.setIfInBounds_toArray, List.set_cons_succ, List.set_cons_zero]
            obtain ⟨wb, ds, hbu, hLd, hwn⟩ := hF
            have HWN := Lib.hid hwn
            clear hwn
            obtain ⟨d0, d1, d2, d3, d4, d4l, d4c, d5, d5l, d5c, rfl⟩ := hLd.six
            have hz4 := HZ3.out.later hbu (by omega)
            go_wp2_with fail
            rw [HPR.out]
            refine ret_cells wb (w.heap.size + 1) [.int .i64 d0, .bool d1, .int .i64 d2, .string d3, .slice d4 d4l d4c, .slice d5 d5l d5c] HWN.out Tryd.results16 rfl rfl DD.out HU.out Tryd.sizeV (fun i hi => ⟨_, (hz4 i hi).trans (Array.getElem?_eq_getElem (show i < 6 from hi))⟩) ?_
            exact ⟨_, rfl, (hLd.keep (fun b hb => setRow_heap _ _ _ _ _ (by omega))).weaken (fun b hb => by omega), setRow_below _ (by omega) _ _ _ (bstep HW3.out (bstep HBU.out hbu HBU.out.size) HW3.out.size)⟩
        | none =>
          obtain rfl : sc = 0 := HKS.out.ofNone rfl
          have hk0 : ks.length = 0 := by omega
          obtain rfl : j = 0 := by omega
          rw [hk0]
          clear hk0 hg hg2
          refine wp_region_specs2 u 5 (fun i => 38 + i) (fun i x wx => match i with | 0 => x = .agg #[.int .i64 k, .bool b, .int .i64 n, .string s, .slice la ll lc, .slice ma ml mc] | 1 => x = .slice none 0 0 | 2 => x = .int .i64 (0 : Int) | 3 => x = .slice none 0 0 | 4 => ∃ ds : Array Value, x = .agg ds ∧ Lies wx (fun b => u.heap.size ≤ b) (dropAt (ks.take 0) t) ds | _ => True) (fun _ wx => ∃ (wb : World) (ds : Array Value), Below u.heap.size u wb ∧ Lies wb (fun b => u.heap.size ≤ b) (dropAt (ks.take 0) t) ds ∧ wx = setRow wb (w.heap.size + 1) 0 ds.toList) (by kernel_rfl) (by kernel_rfl) ?s1 (Below.refl _ _) ?s2 ?s3 ?s4 ?s5
          case s1 => intro i hi; exact Nat.lt_of_lt_of_le (show 38 + i < 43 by omega) (Nat.le_refl 43)
          case s2 =>
            intro i x w1 w2 hb hU
            match i, hU with
            | 4, ⟨ds, e, hL⟩ => exact ⟨ds, e, hL.later hb⟩
            | 0, h | 1, h | 2, h | 3, h => exact h
            | (n + 5), _ => trivial
          case s3 =>
            intro i o ac wb K' ho hi hA hB hdep hK
            have sv1 : ac.tmps[1]?.getD undef = .slice none 0 0 := hA.sl (t := 1) (by decide)
            have sv2 : ac.tmps[2]?.getD undef = .pointer (some ⟨w.heap.size, 0, none⟩) := hA.sl (t := 2) (by decide)
            have sv4 : ac.tmps[4]?.getD undef = .pointer (some ⟨w.heap.size + 1, 0, none⟩) := hA.sl (t := 4) (by decide)
            have sv8 : ac.tmps[8]?.getD undef = .int .i64 (0 : Int) := hA.sl (t := 8) (by decide)
            have x0 := cells_frame hB x0
            have x1 := cells_frame hB x1
            have x2 := cells_frame hB x2
            have x3 := cells_frame hB x3
            have x4 := cells_frame hB x4
            have x5 := cells_frame hB x5
            rcases (by omega : i = 0 ∨ i = 1 ∨ i = 2 ∨ i = 3 ∨ i = 4) with rfl | rfl | rfl | rfl | rfl
            · simp at ho
              subst ho
              clear hdep hA
              go_simp
              exact hK _ wb (Below.refl _ _) rfl
            · simp at ho
              subst ho
              clear hdep hA
              go_simp
              exact hK _ wb (Below.refl _ _) rfl
            · simp at ho
              subst ho
              clear hdep hA
              go_simp
              exact hK _ wb (Below.refl _ _) rfl
            · simp at ho
              subst ho
              have y1 : ac.tmps[39]?.getD undef = .slice none 0 0 := hdep { on := 1, ground := .data } (by simp) rfl
              have y2 : ac.tmps[40]?.getD undef = .int .i64 (0 : Int) := hdep { on := 2, ground := .data } (by simp) rfl
              clear hdep hA
              go_simp
              exact hK _ wb (Below.refl _ _) rfl
            · simp at ho
              subst ho
              have y0 : ac.tmps[38]?.getD undef = .agg #[.int .i64 k, .bool b, .int .i64 n, .string s, .slice la ll lc, .slice ma ml mc] := hdep { on := 0, ground := .data } (by simp) rfl
              have y3 : ac.tmps[41]?.getD undef = .slice none 0 0 := hdep { on := 3, ground := .data } (by simp) rfl
              clear hdep hA
              go_simp
              refine (HDR.out wb (bstep hwu.out hB hwu.out.size)).mono ?_
              rintro e w3 ⟨ds, rfl, hL, hb3⟩
              exact hK _ w3 hb3 ⟨ds, rfl, hL.weaken fun b hb => Nat.le_trans hB.size hb⟩
          case s4 =>
            intro o ac wb K' ho hA hB hU hK
            have sv1 : ac.tmps[1]?.getD undef = .slice none 0 0 := hA.sl (t := 1) (by decide)
            have sv2 : ac.tmps[2]?.getD undef = .pointer (some ⟨w.heap.size, 0, none⟩) := hA.sl (t := 2) (by decide)
            have sv4 : ac.tmps[4]?.getD undef = .pointer (some ⟨w.heap.size + 1, 0, none⟩) := hA.sl (t := 4) (by decide)
            have sv8 : ac.tmps[8]?.getD undef = .int .i64 (0 : Int) := hA.sl (t := 8) (by decide)
            have x0 := cells_frame hB x0
            have x1 := cells_frame hB x1
            have x2 := cells_frame hB x2
            have x3 := cells_frame hB x3
            have x4 := cells_frame hB x4
            have x5 := cells_frame hB x5
            simp at ho
            subst ho
            obtain ⟨ds, y4, hLy4⟩ := hU 4 (by omega)
            obtain ⟨d0, d1, d2, d3, d4, d4l, d4c, d5, d5l, d5c, rfl⟩ := hLy4.six
            have y4 : ac.tmps[42]?.getD undef = _ := y4
            clear hU hA
            obtain ⟨z0, z1, z2, z3, z4, z5⟩ := (HZ3.out.later hB (by omega)).six
            obtain ⟨f0, f1, f2, f3, f4, f5⟩ := (HT3.out.later hB (by omega)).six
            go_simp
            exact hK _ ⟨wb, _, hB, hLy4, rfl⟩
          case s5 =>
            intro ac wn hA hF
            have hs : slots 5 (fun i => 38 + i) = [38, 39, 40, 41, 42] := by rfl
            rw [hs] at hA
            have hac := hA.act (fun t ht => by
              have h8 : t = 38 ∨ t = 39 ∨ t = 40 ∨ t = 41 ∨ t = 42 := by simpa using ht
              rcases h8 with rfl | rfl | rfl | rfl | rfl <;> exact Nat.lt_of_lt_of_le (by decide : _ < 43) (Nat.le_refl 43))
            rw [List.foldl_cons, List.foldl_cons, List.foldl_cons, List.foldl_cons, List.foldl_cons, List.foldl_nil] at hac
            generalize sl ac 38 = x38 at hac
            generalize sl ac 39 = x39 at hac
            generalize sl ac 40 = x40 at hac
            generalize sl ac 41 = x41 at hac
            generalize sl ac 42 = x42 at hac
            clear hA hs
            subst hac
            simp only [Act.put, List.setIfInBounds_toArray, List.set_cons_succ, List.set_cons_zero]
            obtain ⟨wb, ds, hbu, hLd, hwn⟩ := hF
            have HWN := Lib.hid hwn
            clear hwn
            obtain ⟨d0, d1, d2, d3, d4, d4l, d4c, d5, d5l, d5c, rfl⟩ := hLd.six
            have hz4 := HZ3.out.later hbu (by omega)
            go_wp2_with fail
            rw [HPR.out]
            refine ret_cells wb (w.heap.size + 1) [.int .i64 d0, .bool d1, .int .i64 d2, .string d3, .slice d4 d4l d4c, .slice d5 d5l d5c] HWN.out Tryd.results16 rfl rfl DD.out HU.out Tryd.sizeV (fun i hi => ⟨_, (hz4 i hi).trans (Array.getElem?_eq_getElem (show i < 6 from hi))⟩) ?_
            exact ⟨_, rfl, (hLd.keep (fun b hb => setRow_heap _ _ _ _ _ (by omega))).weaken (fun b hb => by omega), setRow_below _ (by omega) _ _ _ (bstep HW3.out (bstep HBU.out hbu HBU.out.size) HW3.out.size)⟩
      · obtain ⟨p, hp⟩ : ∃ p, j = p + 1 := ⟨j - 1, by omega⟩
        have hpw : p < (wayL ks t).length := by rw [HWL.out]; omega
        have hpk : p < ks.length := by omega
        obtain ⟨bl, ol, rfl, _⟩ := HSV.out.hdr.some (by omega)
        have hez := HSV.out.each p hpw
        obtain ⟨c0, c1, c2, c3, c4, c4l, c4c, c5, c5c, hcl⟩ := hez.six_map
        have hrow := HSV.out.rows p hpw bl ol rfl
        rw [hcl] at hrow
        obtain ⟨p0, p1, p2, p3, p4, p5⟩ := hrow.six
        have hpm := prune_more (ws := wayL ks t) (p := p) (by omega) hpw
        rw [← hp] at hpm
        have HPM := Lib.hid hpm
        have hg : ((1 : Int) < (j : Int)) = True := by simp; omega
        have hwr : IntKind.i64.wrap ((j : Int) - 1) = (p : Int) := by rw [IntWalk.i64_in _ (by omega)]; omega
        have HJP := Lib.hid hp
        have hj2 : 1 < j := by omega
        clear hez hrow hcl hp hpm hj1
        by_cases hm1 : (wayL ks t)[p].map.length = 1
        · have HPQ : Hid (pruneN (wayL ks t) ks.length = pruneN (wayL ks t) p) := by show _ = _; rw [HPN.out, HPM.out, if_pos hm1]
          have hme : (((wayL ks t)[p].map.length : Int) == 1) = true := by rw [hm1]; rfl
          clear hm1
          go_wp2_with fail
          go_roundw
          case rel => exact ⟨p, by have := HJP.out; omega, rfl, HPQ, trivial⟩
          case measure => have := HJP.out; first | omega | (simp [intOf]; omega) | simp [intOf]
        · have HPR := fin.out (by rw [HPM.out, if_neg hm1])
          have HDR := Lib.hid (HDA.out j hj)
          have hme : (((wayL ks t)[p].map.length : Int) == 1) = false := by rw [beq_eq_false_iff_ne]; omega
          clear hm1 fin
          go_upto_region 8 with fail
          cases sa with
          | some sa0 =>
            obtain ⟨sb, so, sp⟩ := sa0
            refine wp_region_specs2 u 5 (fun i => 38 + i) (fun i x wx => match i with | 0 => x = .agg #[.int .i64 k, .bool b, .int .i64 n, .string s, .slice la ll lc, .slice ma ml mc] | 1 => x = .slice (some ⟨sb, so, sp⟩) ks.length sc | 2 => x = .int .i64 (j : Int) | 3 => x = .slice (some ⟨sb, so, sp⟩) j sc | 4 => ∃ ds : Array Value, x = .agg ds ∧ Lies wx (fun b => u.heap.size ≤ b) (dropAt (ks.take j) t) ds | _ => True) (fun _ wx => ∃ (wb : World) (ds : Array Value), Below u.heap.size u wb ∧ Lies wb (fun b => u.heap.size ≤ b) (dropAt (ks.take j) t) ds ∧ wx = setRow wb (w.heap.size + 1) 0 ds.toList) (by kernel_rfl) (by kernel_rfl) ?s1 (Below.refl _ _) ?s2 ?s3 ?s4 ?s5
            case s1 => intro i hi; exact Nat.lt_of_lt_of_le (show 38 + i < 43 by omega) (Nat.le_refl 43)
            case s2 =>
              intro i x w1 w2 hb hU
              match i, hU with
              | 4, ⟨ds, e, hL⟩ => exact ⟨ds, e, hL.later hb⟩
              | 0, h | 1, h | 2, h | 3, h => exact h
              | (n + 5), _ => trivial
            case s3 =>
              intro i o ac wb K' ho hi hA hB hdep hK
              have sv1 : ac.tmps[1]?.getD undef = .slice (some ⟨sb, so, sp⟩) ks.length sc := hA.sl (t := 1) (by decide)
              have sv2 : ac.tmps[2]?.getD undef = .pointer (some ⟨w.heap.size, 0, none⟩) := hA.sl (t := 2) (by decide)
              have sv4 : ac.tmps[4]?.getD undef = .pointer (some ⟨w.heap.size + 1, 0, none⟩) := hA.sl (t := 4) (by decide)
              have sv8 : ac.tmps[8]?.getD undef = .int .i64 (j : Int) := hA.sl (t := 8) (by decide)
              have x0 := cells_frame hB x0
              have x1 := cells_frame hB x1
              have x2 := cells_frame hB x2
              have x3 := cells_frame hB x3
              have x4 := cells_frame hB x4
              have x5 := cells_frame hB x5
              rcases (by omega : i = 0 ∨ i = 1 ∨ i = 2 ∨ i = 3 ∨ i = 4) with rfl | rfl | rfl | rfl | rfl
              · simp at ho
                subst ho
                clear hdep hA
                go_simp
                exact hK _ wb (Below.refl _ _) rfl
              · simp at ho
                subst ho
                clear hdep hA
                go_simp
                exact hK _ wb (Below.refl _ _) rfl
              · simp at ho
                subst ho
                clear hdep hA
                go_simp
                exact hK _ wb (Below.refl _ _) rfl
              · simp at ho
                subst ho
                have y1 : ac.tmps[39]?.getD undef = .slice (some ⟨sb, so, sp⟩) ks.length sc := hdep { on := 1, ground := .data } (by simp) rfl
                have y2 : ac.tmps[40]?.getD undef = .int .i64 (j : Int) := hdep { on := 2, ground := .data } (by simp) rfl
                clear hdep hA
                go_simp
                exact hK _ wb (Below.refl _ _) rfl
              · simp at ho
                subst ho
                have y0 : ac.tmps[38]?.getD undef = .agg #[.int .i64 k, .bool b, .int .i64 n, .string s, .slice la ll lc, .slice ma ml mc] := hdep { on := 0, ground := .data } (by simp) rfl
                have y3 : ac.tmps[41]?.getD undef = .slice (some ⟨sb, so, sp⟩) j sc := hdep { on := 3, ground := .data } (by simp) rfl
                clear hdep hA
                go_simp
                refine (HDR.out wb (bstep hwu.out hB hwu.out.size)).mono ?_
                rintro e w3 ⟨ds, rfl, hL, hb3⟩
                exact hK _ w3 hb3 ⟨ds, rfl, hL.weaken fun b hb => Nat.le_trans hB.size hb⟩
            case s4 =>
              intro o ac wb K' ho hA hB hU hK
              have sv1 : ac.tmps[1]?.getD undef = .slice (some ⟨sb, so, sp⟩) ks.length sc := hA.sl (t := 1) (by decide)
              have sv2 : ac.tmps[2]?.getD undef = .pointer (some ⟨w.heap.size, 0, none⟩) := hA.sl (t := 2) (by decide)
              have sv4 : ac.tmps[4]?.getD undef = .pointer (some ⟨w.heap.size + 1, 0, none⟩) := hA.sl (t := 4) (by decide)
              have sv8 : ac.tmps[8]?.getD undef = .int .i64 (j : Int) := hA.sl (t := 8) (by decide)
              have x0 := cells_frame hB x0
              have x1 := cells_frame hB x1
              have x2 := cells_frame hB x2
              have x3 := cells_frame hB x3
              have x4 := cells_frame hB x4
              have x5 := cells_frame hB x5
              simp at ho
              subst ho
              obtain ⟨ds, y4, hLy4⟩ := hU 4 (by omega)
              obtain ⟨d0, d1, d2, d3, d4, d4l, d4c, d5, d5l, d5c, rfl⟩ := hLy4.six
              have y4 : ac.tmps[42]?.getD undef = _ := y4
              clear hU hA
              obtain ⟨z0, z1, z2, z3, z4, z5⟩ := (HZ3.out.later hB (by omega)).six
              obtain ⟨f0, f1, f2, f3, f4, f5⟩ := (HT3.out.later hB (by omega)).six
              go_simp
              exact hK _ ⟨wb, _, hB, hLy4, rfl⟩
            case s5 =>
              intro ac wn hA hF
              have hs : slots 5 (fun i => 38 + i) = [38, 39, 40, 41, 42] := by rfl
              rw [hs] at hA
              have hac := hA.act (fun t ht => by
                have h8 : t = 38 ∨ t = 39 ∨ t = 40 ∨ t = 41 ∨ t = 42 := by simpa using ht
                rcases h8 with rfl | rfl | rfl | rfl | rfl <;> exact Nat.lt_of_lt_of_le (by decide : _ < 43) (Nat.le_refl 43))
              rw [List.foldl_cons, List.foldl_cons, List.foldl_cons, List.foldl_cons, List.foldl_cons, List.foldl_nil] at hac
              generalize sl ac 38 = x38 at hac
              generalize sl ac 39 = x39 at hac
              generalize sl ac 40 = x40 at hac
              generalize sl ac 41 = x41 at hac
              generalize sl ac 42 = x42 at hac
              clear hA hs
              subst hac
              simp only [Act.put, List.setIfInBounds_toArray, List.set_cons_succ, List.set_cons_zero]
              obtain ⟨wb, ds, hbu, hLd, hwn⟩ := hF
              have HWN := Lib.hid hwn
              clear hwn
              obtain ⟨d0, d1, d2, d3, d4, d4l, d4c, d5, d5l, d5c, rfl⟩ := hLd.six
              have hz4 := HZ3.out.later hbu (by omega)
              go_wp2_with fail
              rw [HPR.out]
              refine ret_cells wb (w.heap.size + 1) [.int .i64 d0, .bool d1, .int .i64 d2, .string d3, .slice d4 d4l d4c, .slice d5 d5l d5c] HWN.out Tryd.results16 rfl rfl DD.out HU.out Tryd.sizeV (fun i hi => ⟨_, (hz4 i hi).trans (Array.getElem?_eq_getElem (show i < 6 from hi))⟩) ?_
              exact ⟨_, rfl, (hLd.keep (fun b hb => setRow_heap _ _ _ _ _ (by omega))).weaken (fun b hb => by omega), setRow_below _ (by omega) _ _ _ (bstep HW3.out (bstep HBU.out hbu HBU.out.size) HW3.out.size)⟩
          | none => exact absurd (HKS.out.ofNone rfl) (by omega)

end Go.Proofs.YtbbpipjadniafaaDoor
