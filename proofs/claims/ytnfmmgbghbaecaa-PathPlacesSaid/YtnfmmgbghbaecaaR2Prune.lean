/-
  The path reference's Prune.
-/
import Derived.Test.YtnfmmgbghbaecaaR2Put
set_option linter.unusedVariables false
set_option linter.unusedSimpArgs false
namespace Go.Proofs.Ytnfmmgbghbaecaa
open Go.RowKit Go.Sort

theorem map_cell {w : World} {R : Nat → Prop} {t : T} {k : Int} {b : Bool} {n : Int} {s : ByteArray} {la ma : Option Addr} {ll lc ml mc : Nat} (h : Lies w R t #[.int .i64 k, .bool b, .int .i64 n, .string s, .slice la ll lc, .slice ma ml mc]) : t.map.length = ml := by
  cases h
  rfl
set_option maxRecDepth 100000 in
set_option maxHeartbeats 4000000 in
theorem r2Prune_nil {w0 : World} {R1 : Nat → Prop} {t : T} {cs : Array Value} {sa : Option Addr} {sc : Nat} (h1 : Lies w0 R1 t cs) (hS : SliceS w0 [] sa sc) (w : World) (hw : Below w0.heap.size w0 w) :
    Calls Try.prog 57 #[.agg cs, .slice sa 0 sc] w (Laid w0 w T.nil) := by
    obtain ⟨c0, c1, c2, c3, c4, c4l, c4c, c5, c5l, c5c, rfl⟩ := h1.six
    obtain ⟨dd, hu, hdd⟩ := Try.structV
    have DD := Lib.hid hdd
    have HU := Lib.hid hu
    have H1 := Lib.hid h1
    have HS := Lib.hid hS
    have HW := Lib.hid hw
    have hw0 := hw.size
    clear hdd hu h1 hS
    have e2 : (w.alloc (.cells #[.int .i64 c0, .bool c1, .int .i64 c2, .string c3, .slice c4 c4l c4c, .slice c5 c5l c5c] 25)).heap.size = w.heap.size + 1 := by simp
    have hb3 : Below w.heap.size w ((w.alloc (.cells #[.int .i64 c0, .bool c1, .int .i64 c2, .string c3, .slice c4 c4l c4c, .slice c5 c5l c5c] 25)).alloc (.cells zeroV 25)) := ((Below.refl _ _).alloc (Nat.le_refl _) _).alloc (by simp) _
    have b0 : Box6 ((w.alloc (.cells #[.int .i64 c0, .bool c1, .int .i64 c2, .string c3, .slice c4 c4l c4c, .slice c5 c5l c5c] 25)).alloc (.cells zeroV 25)) w.heap.size #[.int .i64 c0, .bool c1, .int .i64 c2, .string c3, .slice c4 c4l c4c, .slice c5 c5l c5c] := (Box6.new w #[.int .i64 c0, .bool c1, .int .i64 c2, .string c3, .slice c4 c4l c4c, .slice c5 c5l c5c] 25).later ((Below.refl (w.heap.size + 1) _).alloc (by simp) _) (by omega)
    have b2 := Box6.new (w.alloc (.cells #[.int .i64 c0, .bool c1, .int .i64 c2, .string c3, .slice c4 c4l c4c, .slice c5 c5l c5c] 25)) zeroV 25
    have t2 := Thaw.new (w.alloc (.cells #[.int .i64 c0, .bool c1, .int .i64 c2, .string c3, .slice c4 c4l c4c, .slice c5 c5l c5c] 25)) zeroV 25
    rw [e2] at b2 t2
    have es3 : ((w.alloc (.cells #[.int .i64 c0, .bool c1, .int .i64 c2, .string c3, .slice c4 c4l c4c, .slice c5 c5l c5c] 25)).alloc (.cells zeroV 25)).heap.size = w.heap.size + 2 := by simp
    have HB3 := Lib.hid hb3
    have B0 := Lib.hid b0
    have B2 := Lib.hid b2
    have T2 := Lib.hid t2
    have ES3 := Lib.hid es3
    clear e2 hb3 b0 b2 t2 es3
    go_enter Try.func57, Try.ntmps57
    go_upto_region 1 with fail
    generalize ((w.alloc (.cells #[.int .i64 c0, .bool c1, .int .i64 c2, .string c3, .slice c4 c4l c4c, .slice c5 c5l c5c] 25)).alloc (.cells zeroV 25)) = v at *
    have hvs := Nat.le_of_eq ES3.out.symm
    have hwv := bstep hw HB3.out hw.size
    have HWV := Lib.hid hwv
    have RG : Hid (Calls Try.prog 51 #[.agg #[.int .i64 c0, .bool c1, .int .i64 c2, .string c3, .slice c4 c4l c4c, .slice c5 c5l c5c], .slice sa 0 sc] v (RGot w0 R1 v (some t))) := r2Get_any H1.out HS.out v hwv
    obtain ⟨b0', b1', b2', b3', b4', b5'⟩ := B0.out.six
    go_upto_region 2 with (go_at_call 51; refine RG.out.mono ?_; rintro e w1 ⟨gs, rfl, hLg, hbg⟩; obtain ⟨h0, h1, h2, h3, h4, h4l, h4c, h5, h5l, h5c, rfl⟩ := hLg.six; have HG0 := Lib.hid hbg; clear hLg hbg)
    have hb1 := HG0.out.alloc HG0.out.size (.cells #[.int .i64 h0, .bool h1, .int .i64 h2, .string h3, .slice h4 h4l h4c, .slice h5 h5l h5c] 25)
    generalize w1.alloc (.cells #[.int .i64 h0, .bool h1, .int .i64 h2, .string h3, .slice h4 h4l h4c, .slice h5 h5l h5c] 25) = v1 at *
    have HV1 := Lib.hid hb1
    have BA := Lib.hid (B0.out.later hb1 (by omega))
    have ZA := Lib.hid (B2.out.later hb1 (by omega))
    have TA := Lib.hid (T2.out.later hb1 (by omega))
    have HBA := Lib.hid (bstep HB3.out hb1 HB3.out.size)
    have hv1 := hb1.size
    clear hb1 b0' b1' b2' b3' b4' b5' RG
    have BZ6 := ZA
    obtain ⟨z0, z1, z2, z3, z4, z5⟩ := ZA.out.six
    obtain ⟨f0, f1, f2, f3, f4, f5⟩ := TA.out.six
    go_wp2_with fail
    refine ret_cells v1 (w.heap.size + 1) [.int .i64 0, .bool false, .int .i64 0, .string ⟨#[]⟩, .slice none 0 0, .slice none 0 0] rfl Try.results57 rfl rfl DD.out HU.out Try.sizeV (fun i hi => ⟨_, (BZ6.out i hi).trans (Array.getElem?_eq_getElem (show i < 6 from hi))⟩) ?_
    have hbf := setRow_below (w.heap.size + 1) (by omega) [.int .i64 0, .bool false, .int .i64 0, .string ⟨#[]⟩, .slice none 0 0, .slice none 0 0] v1 0 HBA.out
    generalize setRow v1 (w.heap.size + 1) 0 [.int .i64 0, .bool false, .int .i64 0, .string ⟨#[]⟩, .slice none 0 0, .slice none 0 0] = v2 at *
    exact ⟨_, rfl, nil_lies _ _, hbf⟩

def PrunesAt (r : List ByteArray) : Prop := ∀ {w0 : World} {R1 : Nat → Prop} {t : T} {cs : Array Value} {sa : Option Addr} {sc : Nat} (h1 : Lies w0 R1 t cs) (hS : SliceS w0 r sa sc) (hsz : t.size ≤ 1000000) (w : World) (hw : Below w0.heap.size w0 w),
    Calls Try.prog 57 #[.agg cs, .slice sa r.length sc] w (Laid w0 w (pruneQ r t))
set_option maxRecDepth 100000 in
set_option maxHeartbeats 4000000 in
theorem r2Prune_cons {key : ByteArray} {r : List ByteArray} (IH : Hid (PrunesAt r)) : PrunesAt (key :: r) := by
    intro w0 R1 t cs sa sc h1 hS hsz w hw
    obtain ⟨c0, c1, c2, c3, c4, c4l, c4c, c5, c5l, c5c, rfl⟩ := h1.six
    obtain ⟨sb, so, rfl⟩ := hS.ofSome (by simp)
    have kc := hS.cell 0 (by simp) sb so rfl
    have kc : w0.cell? ⟨sb, so, none⟩ = some (.string key) := by simpa using kc
    have hsb : sb < w0.heap.size := World.block_lt_of_cell? _ _ kc
    have hkey := hS.sizes 0 (by simp)
    have hkey : key.size ≤ 140737488355328 := by simpa using hkey
    have KC := Lib.hid kc
    have HKEY := Lib.hid hkey
    have hsc := hS.le
    have hsbig := hS.big
    obtain ⟨dd, hu, hdd⟩ := Try.structV
    have DD := Lib.hid hdd
    have HU := Lib.hid hu
    have H1 := Lib.hid h1
    have HS := Lib.hid hS
    have HW := Lib.hid hw
    have hw0 := hw.size
    clear hdd hu h1 hS
    have e2 : (w.alloc (.cells #[.int .i64 c0, .bool c1, .int .i64 c2, .string c3, .slice c4 c4l c4c, .slice c5 c5l c5c] 25)).heap.size = w.heap.size + 1 := by simp
    have hb3 : Below w.heap.size w ((w.alloc (.cells #[.int .i64 c0, .bool c1, .int .i64 c2, .string c3, .slice c4 c4l c4c, .slice c5 c5l c5c] 25)).alloc (.cells zeroV 25)) := ((Below.refl _ _).alloc (Nat.le_refl _) _).alloc (by simp) _
    have b0 : Box6 ((w.alloc (.cells #[.int .i64 c0, .bool c1, .int .i64 c2, .string c3, .slice c4 c4l c4c, .slice c5 c5l c5c] 25)).alloc (.cells zeroV 25)) w.heap.size #[.int .i64 c0, .bool c1, .int .i64 c2, .string c3, .slice c4 c4l c4c, .slice c5 c5l c5c] := (Box6.new w #[.int .i64 c0, .bool c1, .int .i64 c2, .string c3, .slice c4 c4l c4c, .slice c5 c5l c5c] 25).later ((Below.refl (w.heap.size + 1) _).alloc (by simp) _) (by omega)
    have b2 := Box6.new (w.alloc (.cells #[.int .i64 c0, .bool c1, .int .i64 c2, .string c3, .slice c4 c4l c4c, .slice c5 c5l c5c] 25)) zeroV 25
    have t2 := Thaw.new (w.alloc (.cells #[.int .i64 c0, .bool c1, .int .i64 c2, .string c3, .slice c4 c4l c4c, .slice c5 c5l c5c] 25)) zeroV 25
    rw [e2] at b2 t2
    have es3 : ((w.alloc (.cells #[.int .i64 c0, .bool c1, .int .i64 c2, .string c3, .slice c4 c4l c4c, .slice c5 c5l c5c] 25)).alloc (.cells zeroV 25)).heap.size = w.heap.size + 2 := by simp
    have HB3 := Lib.hid hb3
    have B0 := Lib.hid b0
    have B2 := Lib.hid b2
    have T2 := Lib.hid t2
    have ES3 := Lib.hid es3
    clear e2 hb3 b0 b2 t2 es3
    have hl : ((r.length : Int) + 1 == 0) = false := by rw [beq_eq_false_iff_ne]; omega
    go_enter Try.func57, Try.ntmps57
    go_upto_region 1 with fail
    generalize ((w.alloc (.cells #[.int .i64 c0, .bool c1, .int .i64 c2, .string c3, .slice c4 c4l c4c, .slice c5 c5l c5c] 25)).alloc (.cells zeroV 25)) = v at *
    have hvs := Nat.le_of_eq ES3.out.symm
    have hwv := bstep hw HB3.out hw.size
    have HWV := Lib.hid hwv
    have RG := Lib.hid (r2Get_any H1.out HS.out v hwv)
    obtain ⟨b0', b1', b2', b3', b4', b5'⟩ := B0.out.six
    go_upto_region 2 with (go_at_call 51; refine RG.out.mono ?_; rintro e w1 ⟨gs, rfl, hLg, hbg⟩; obtain ⟨h0, h1, h2, h3, h4, h4l, h4c, h5, h5l, h5c, rfl⟩ := hLg.six; have HG0 := Lib.hid hbg; clear hLg hbg)
    have hb1 := HG0.out.alloc HG0.out.size (.cells #[.int .i64 h0, .bool h1, .int .i64 h2, .string h3, .slice h4 h4l h4c, .slice h5 h5l h5c] 25)
    generalize w1.alloc (.cells #[.int .i64 h0, .bool h1, .int .i64 h2, .string h3, .slice h4 h4l h4c, .slice h5 h5l h5c] 25) = v1 at *
    have HV1 := Lib.hid hb1
    have BA := Lib.hid (B0.out.later hb1 (by omega))
    have ZA := Lib.hid (B2.out.later hb1 (by omega))
    have TA := Lib.hid (T2.out.later hb1 (by omega))
    have HBA := Lib.hid (bstep HB3.out hb1 HB3.out.size)
    have hv1 := hb1.size
    clear hb1 b0' b1' b2' b3' b4' b5' RG
    have HWA := Lib.hid (bstep HWV.out HV1.out HWV.out.size)
    cases hgq : getQ (key :: r) t with
    | none =>
      have BZ6 := ZA
      obtain ⟨a0, a1, a2, a3, a4, a5⟩ := BA.out.six
      obtain ⟨z0, z1, z2, z3, z4, z5⟩ := ZA.out.six
      obtain ⟨f0, f1, f2, f3, f4, f5⟩ := TA.out.six
      go_wp2_with fail
      refine ret_cells v1 (w.heap.size + 1) [.int .i64 c0, .bool c1, .int .i64 c2, .string c3, .slice c4 c4l c4c, .slice c5 c5l c5c] rfl Try.results57 rfl rfl DD.out HU.out Try.sizeV (fun i hi => ⟨_, (BZ6.out i hi).trans (Array.getElem?_eq_getElem (show i < 6 from hi))⟩) ?_
      have hq : pruneQ (key :: r) t = t := by rw [pruneQ, hgq, if_neg (by simp)]
      rw [hq]
      have hbf := setRow_below (w.heap.size + 1) (by omega) [.int .i64 c0, .bool c1, .int .i64 c2, .string c3, .slice c4 c4l c4c, .slice c5 c5l c5c] v1 0 HBA.out
      have hbg := bstep hw hbf hw.size
      generalize setRow v1 (w.heap.size + 1) 0 [.int .i64 c0, .bool c1, .int .i64 c2, .string c3, .slice c4 c4l c4c, .slice c5 c5l c5c] = v2 at *
      exact ⟨_, rfl, (H1.out.bound.later hbg).weaken (fun b hb => .inl hb.2), hbf⟩
    | some yT =>
      have HGQ : Hid ((getQ (key :: r) t).isSome = true) := by show _ = _; rw [hgq]; rfl
      have hmt : t.map.length ≤ 1000000 := Nat.le_trans (map_size t) hsz
      have KA := Lib.hid (cells_frame HWA.out KC.out)
      clear hgq
      by_cases hr : r = []
      · have hl1 : ((r.length : Int) + 1 == 1) = true := by rw [hr]; rfl
        obtain ⟨u, hu0⟩ : ∃ u : World, u = v1 := ⟨_, rfl⟩
        subst hu0
        have HBW := HBA
        have HWU := HWA
        have BZ6 := ZA
        have TZ6 := TA
        have hus : w.heap.size + 2 ≤ u.heap.size := by omega
        have k6 := KA.out
        obtain ⟨c0', c1', c2', c3', c4', c5'⟩ := BA.out.six
        have DR6 : Hid (∀ wb : World, Below u.heap.size u wb → Calls Try.prog 41 #[.agg #[.int .i64 c0, .bool c1, .int .i64 c2, .string c3, .slice c4 c4l c4c, .slice c5 c5l c5c], .string key] wb fun e w' => ∃ vs, e = .returned (.agg vs) ∧ Lies w' (fun b => b < w0.heap.size ∨ u.heap.size ≤ b) (rdropT key t) vs ∧ Below wb.heap.size wb w') := fun wb hwb => by
          refine (rDrop_any H1.out key hmt wb (bstep HWU.out hwb HWU.out.size)).mono ?_
          rintro e w' ⟨vs, he, hv, hb⟩
          have hs := hwb.size
          refine ⟨vs, he, hv.weaken fun b hb => ?_, hb⟩
          rcases hb with ⟨_, h⟩ | h
          · exact .inl h
          · exact .inr (by omega)
        go_upto_region 7 with fail
        have HR := Lib.hid hr
        clear hr hl1
        refine wp_region_specs2 u 5 (fun i => 26 + i) (fun i x wx => match i with | 0 => x = .agg #[.int .i64 c0, .bool c1, .int .i64 c2, .string c3, .slice c4 c4l c4c, .slice c5 c5l c5c] | 1 => x = .slice (some ⟨sb, so, none⟩) (r.length + 1) sc | 2 => x = .pointer (some ⟨sb, so, none⟩) | 3 => x = .string key | 4 => ∃ ds : Array Value, x = .agg ds ∧ Lies wx (fun b => b < w0.heap.size ∨ u.heap.size ≤ b) (rdropT key t) ds | _ => True) (fun _ wx => ∃ (vs : List Value) (wb : World), vs.length = 6 ∧ Below u.heap.size u wb ∧ Lies wb (fun b => b < w0.heap.size ∨ u.heap.size ≤ b) (rdropT key t) vs.toArray ∧ wx = setRow wb (w.heap.size + 1) 0 vs) (by kernel_rfl) (by kernel_rfl) ?s1 (Below.refl _ _) ?s2 ?s3 ?s4 ?s5
        case s1 => intro i hi; exact Nat.lt_of_lt_of_le (show 26 + i < 58 by omega) (Nat.le_refl 58)
        case s2 =>
          intro i x w1 w2 hb hU
          match i, hU with
          | 4, ⟨ds, e, hL⟩ => exact ⟨ds, e, hL.later hb⟩
          | 0, h | 1, h | 2, h | 3, h => exact h
          | (n + 5), _ => trivial
        case s3 =>
          intro i o ac wb K' ho hi hA hB hdep hK
          have sv1 : ac.tmps[1]?.getD undef = .slice (some ⟨sb, so, none⟩) (r.length + 1) sc := hA.sl (t := 1) (by decide)
          have sv2 : ac.tmps[2]?.getD undef = .pointer (some ⟨w.heap.size, 0, none⟩) := hA.sl (t := 2) (by decide)
          have sv4 : ac.tmps[4]?.getD undef = .pointer (some ⟨w.heap.size + 1, 0, none⟩) := hA.sl (t := 4) (by decide)
          have c0' := cells_frame hB c0'
          have c1' := cells_frame hB c1'
          have c2' := cells_frame hB c2'
          have c3' := cells_frame hB c3'
          have c4' := cells_frame hB c4'
          have c5' := cells_frame hB c5'
          have k6 := cells_frame hB k6
          rcases (by omega : i = 0 ∨ i = 1 ∨ i = 2 ∨ i = 3 ∨ i = 4) with rfl | rfl | rfl | rfl | rfl
          · simp at ho
            subst ho
            clear hdep hA
            go_simp
            exact hK _ wb (Below.refl _ _) rfl
          · simp at ho
            subst ho
            clear hdep hA
            go_simp
            exact hK _ wb (Below.refl _ _) rfl
          · simp at ho
            subst ho
            have y1 : ac.tmps[27]?.getD undef = .slice (some ⟨sb, so, none⟩) (r.length + 1) sc := hdep { on := 1, ground := .data } (by simp) rfl
            clear hdep hA
            go_simp
            exact hK _ wb (Below.refl _ _) rfl
          · simp at ho
            subst ho
            have y2 : ac.tmps[28]?.getD undef = .pointer (some ⟨sb, so, none⟩) := hdep { on := 2, ground := .data } (by simp) rfl
            clear hdep hA
            go_simp
            exact hK _ wb (Below.refl _ _) rfl
          · simp at ho
            subst ho
            have y0 : ac.tmps[26]?.getD undef = .agg #[.int .i64 c0, .bool c1, .int .i64 c2, .string c3, .slice c4 c4l c4c, .slice c5 c5l c5c] := hdep { on := 0, ground := .data } (by simp) rfl
            have y3 : ac.tmps[29]?.getD undef = .string key := hdep { on := 3, ground := .data } (by simp) rfl
            clear hdep hA
            go_simp
            refine (DR6.out wb hB).mono ?_
            rintro e w5 ⟨vs, rfl, hL, hb5⟩
            exact hK _ w5 hb5 ⟨vs, rfl, hL⟩
        case s4 =>
          intro o ac wb K' ho hA hB hU hK
          have sv1 : ac.tmps[1]?.getD undef = .slice (some ⟨sb, so, none⟩) (r.length + 1) sc := hA.sl (t := 1) (by decide)
          have sv2 : ac.tmps[2]?.getD undef = .pointer (some ⟨w.heap.size, 0, none⟩) := hA.sl (t := 2) (by decide)
          have sv4 : ac.tmps[4]?.getD undef = .pointer (some ⟨w.heap.size + 1, 0, none⟩) := hA.sl (t := 4) (by decide)
          have c0' := cells_frame hB c0'
          have c1' := cells_frame hB c1'
          have c2' := cells_frame hB c2'
          have c3' := cells_frame hB c3'
          have c4' := cells_frame hB c4'
          have c5' := cells_frame hB c5'
          have k6 := cells_frame hB k6
          simp at ho
          subst ho
          obtain ⟨dsy4, y4, hLy4⟩ := hU 4 (by omega)
          obtain ⟨m0, m1, m2, m3, m4, m4l, m4c, m5, m5l, m5c, rfl⟩ := hLy4.six
          have y4 : ac.tmps[30]?.getD undef = _ := y4
          clear hU hA
          obtain ⟨z0', z1', z2', z3', z4', z5'⟩ := (BZ6.out.later hB (by omega)).six
          obtain ⟨f0, f1, f2, f3, f4, f5⟩ := (TZ6.out.later hB (by omega)).six
          go_simp
          exact hK _ ⟨[.int .i64 m0, .bool m1, .int .i64 m2, .string m3, .slice m4 m4l m4c, .slice m5 m5l m5c], wb, rfl, hB, hLy4, rfl⟩
        case s5 =>
          intro ac wn hA hF
          have hs : slots 5 (fun i => 26 + i) = [26, 27, 28, 29, 30] := by rfl
          rw [hs] at hA
          have hac := hA.act (fun t ht => by
            have h8 : t = 26 ∨ t = 27 ∨ t = 28 ∨ t = 29 ∨ t = 30 := by simpa using ht
            rcases h8 with rfl | rfl | rfl | rfl | rfl <;> exact Nat.lt_of_lt_of_le (by decide : _ < 58) (Nat.le_refl 58))
          rw [List.foldl_cons, List.foldl_cons, List.foldl_cons, List.foldl_cons, List.foldl_cons, List.foldl_nil] at hac
          generalize sl ac 26 = x26 at hac
          generalize sl ac 27 = x27 at hac
          generalize sl ac 28 = x28 at hac
          generalize sl ac 29 = x29 at hac
          generalize sl ac 30 = x30 at hac
          clear hA hs
          subst hac
          simp only [Act.put, List.setIfInBounds_toArray, List.set_cons_succ, List.set_cons_zero]
          obtain ⟨vs, w7, hlen, hb7, hl7, rfl⟩ := hF
          have H7 := Lib.hid hb7
          have L7 := Lib.hid hl7
          have HLEN := Lib.hid hlen
          have BR7 := Lib.hid (BZ6.out.later hb7 (by omega))
          clear hb7 hl7 hlen
          generalize hW : setRow w7 (w.heap.size + 1) 0 vs = W7
          have HW7 := Lib.hid hW.symm
          clear hW
          go_wp2_with fail
          refine ret_cells w7 (w.heap.size + 1) vs HW7.out Try.results57 rfl rfl DD.out HU.out (by rw [HLEN.out]; exact Try.sizeV) (fun i hi => ⟨_, (BR7.out i (by rw [← HLEN.out]; exact hi)).trans (Array.getElem?_eq_getElem (show i < 6 by rw [← HLEN.out]; exact hi))⟩) ?_
          have hq : pruneQ (key :: r) t = rdropT key t := by rw [pruneQ, if_pos HGQ.out, if_pos HR.out]
          rw [hq]
          have hs7 := H7.out.size
          exact ⟨_, rfl, (L7.out.keep (fun b hb => setRow_heap _ _ _ _ _ (by omega))).weaken (fun b hb => by omega), setRow_below _ (by omega) _ _ _ (bstep HBW.out H7.out HBW.out.size)⟩
      · have hl1 : ((r.length : Int) + 1 == 1) = false := by
          rw [beq_eq_false_iff_ne]
          have : r.length ≠ 0 := fun h => hr (List.eq_nil_of_length_eq_zero h)
          omega
        have HR := Lib.hid hr
        clear hr
        have GT : Hid (∀ w', Below v1.heap.size v1 w' → Calls Try.prog 37 #[.agg #[.int .i64 c0, .bool c1, .int .i64 c2, .string c3, .slice c4 c4l c4c, .slice c5 c5l c5c], .string key] w' (RGot w0 R1 w' (findR key t.map))) := fun w' hw' => rGet_any H1.out key w' (bstep HWA.out hw' HWA.out.size)
        have SK : Hid (∀ wx : World, Below v1.heap.size v1 wx → wx.cell? ⟨w.heap.size, 0, none⟩ = some (.int .i64 c0) ∧ wx.cell? ⟨w.heap.size, 1, none⟩ = some (.bool c1) ∧ wx.cell? ⟨w.heap.size, 2, none⟩ = some (.int .i64 c2) ∧ wx.cell? ⟨w.heap.size, 3, none⟩ = some (.string c3) ∧ wx.cell? ⟨w.heap.size, 4, none⟩ = some (.slice c4 c4l c4c) ∧ wx.cell? ⟨w.heap.size, 5, none⟩ = some (.slice c5 c5l c5c) ∧ wx.cell? ⟨sb, so, none⟩ = some (.string key)) := fun wx hx => by
          obtain ⟨q0, q1, q2, q3, q4, q5⟩ := (BA.out.later hx (by omega)).six
          exact ⟨q0, q1, q2, q3, q4, q5, cells_frame hx KA.out⟩
        have REF : Hid (Below v1.heap.size v1 v1) := Below.refl _ _
        go_upto_region 8 with fail
        have SKC : ∀ (wx : World) (g : Nat) (v0 v1 v2 v3 v4 v5 : Value) (bb j : Nat), g ≠ bb → ((((((wx.setCell ⟨g, 0, none⟩ v0).setCell ⟨g, 1, none⟩ v1).setCell ⟨g, 2, none⟩ v2).setCell ⟨g, 3, none⟩ v3).setCell ⟨g, 4, none⟩ v4).setCell ⟨g, 5, none⟩ v5).cell? ⟨bb, j, none⟩ = wx.cell? ⟨bb, j, none⟩ := fun wx g v0 v1 v2 v3 v4 v5 bb j hg => by
          rw [World.cell?_setCell_other _ _ _ _ (by intro e; have := congrArg Addr.block e; simp only at this; omega), World.cell?_setCell_other _ _ _ _ (by intro e; have := congrArg Addr.block e; simp only at this; omega), World.cell?_setCell_other _ _ _ _ (by intro e; have := congrArg Addr.block e; simp only at this; omega), World.cell?_setCell_other _ _ _ _ (by intro e; have := congrArg Addr.block e; simp only at this; omega), World.cell?_setCell_other _ _ _ _ (by intro e; have := congrArg Addr.block e; simp only at this; omega), World.cell?_setCell_other _ _ _ _ (by intro e; have := congrArg Addr.block e; simp only at this; omega)]
        have SK2 : Hid (∀ (wx : World) (g : Nat) (v0 v1 v2 v3 v4 v5 : Value), g ≠ w.heap.size → g ≠ sb → wx.cell? ⟨w.heap.size, 0, none⟩ = some (.int .i64 c0) ∧ wx.cell? ⟨w.heap.size, 1, none⟩ = some (.bool c1) ∧ wx.cell? ⟨w.heap.size, 2, none⟩ = some (.int .i64 c2) ∧ wx.cell? ⟨w.heap.size, 3, none⟩ = some (.string c3) ∧ wx.cell? ⟨w.heap.size, 4, none⟩ = some (.slice c4 c4l c4c) ∧ wx.cell? ⟨w.heap.size, 5, none⟩ = some (.slice c5 c5l c5c) ∧ wx.cell? ⟨sb, so, none⟩ = some (.string key) → ((((((wx.setCell ⟨g, 0, none⟩ v0).setCell ⟨g, 1, none⟩ v1).setCell ⟨g, 2, none⟩ v2).setCell ⟨g, 3, none⟩ v3).setCell ⟨g, 4, none⟩ v4).setCell ⟨g, 5, none⟩ v5).cell? ⟨w.heap.size, 0, none⟩ = some (.int .i64 c0) ∧ ((((((wx.setCell ⟨g, 0, none⟩ v0).setCell ⟨g, 1, none⟩ v1).setCell ⟨g, 2, none⟩ v2).setCell ⟨g, 3, none⟩ v3).setCell ⟨g, 4, none⟩ v4).setCell ⟨g, 5, none⟩ v5).cell? ⟨w.heap.size, 1, none⟩ = some (.bool c1) ∧ ((((((wx.setCell ⟨g, 0, none⟩ v0).setCell ⟨g, 1, none⟩ v1).setCell ⟨g, 2, none⟩ v2).setCell ⟨g, 3, none⟩ v3).setCell ⟨g, 4, none⟩ v4).setCell ⟨g, 5, none⟩ v5).cell? ⟨w.heap.size, 2, none⟩ = some (.int .i64 c2) ∧ ((((((wx.setCell ⟨g, 0, none⟩ v0).setCell ⟨g, 1, none⟩ v1).setCell ⟨g, 2, none⟩ v2).setCell ⟨g, 3, none⟩ v3).setCell ⟨g, 4, none⟩ v4).setCell ⟨g, 5, none⟩ v5).cell? ⟨w.heap.size, 3, none⟩ = some (.string c3) ∧ ((((((wx.setCell ⟨g, 0, none⟩ v0).setCell ⟨g, 1, none⟩ v1).setCell ⟨g, 2, none⟩ v2).setCell ⟨g, 3, none⟩ v3).setCell ⟨g, 4, none⟩ v4).setCell ⟨g, 5, none⟩ v5).cell? ⟨w.heap.size, 4, none⟩ = some (.slice c4 c4l c4c) ∧ ((((((wx.setCell ⟨g, 0, none⟩ v0).setCell ⟨g, 1, none⟩ v1).setCell ⟨g, 2, none⟩ v2).setCell ⟨g, 3, none⟩ v3).setCell ⟨g, 4, none⟩ v4).setCell ⟨g, 5, none⟩ v5).cell? ⟨w.heap.size, 5, none⟩ = some (.slice c5 c5l c5c) ∧ ((((((wx.setCell ⟨g, 0, none⟩ v0).setCell ⟨g, 1, none⟩ v1).setCell ⟨g, 2, none⟩ v2).setCell ⟨g, 3, none⟩ v3).setCell ⟨g, 4, none⟩ v4).setCell ⟨g, 5, none⟩ v5).cell? ⟨sb, so, none⟩ = some (.string key)) := fun wx g v0 v1 v2 v3 v4 v5 hg hg2 h => by
          simp only [SKC _ _ _ _ _ _ _ _ _ _ hg, SKC _ _ _ _ _ _ _ _ _ _ hg2]
          exact h
        clear SKC
        go_cut [7, 8] (fun p q wx => ∃ (g : Nat) (es : Array Value), p = .pointer (some ⟨g, 0, none⟩) ∧ q = .bool (findR key t.map).isSome ∧ Hid (Box6 wx g es) ∧ Hid (Lies wx (fun b => R1 b ∧ b < w0.heap.size) ((findR key t.map).getD T.nil) es) ∧ g < wx.heap.size ∧ v1.heap.size ≤ g ∧ Below v1.heap.size v1 wx)
        case first =>
          go_region_held3 (fun wx : World => wx.cell? ⟨w.heap.size, 0, none⟩ = some (.int .i64 c0) ∧ wx.cell? ⟨w.heap.size, 1, none⟩ = some (.bool c1) ∧ wx.cell? ⟨w.heap.size, 2, none⟩ = some (.int .i64 c2) ∧ wx.cell? ⟨w.heap.size, 3, none⟩ = some (.string c3) ∧ wx.cell? ⟨w.heap.size, 4, none⟩ = some (.slice c4 c4l c4c) ∧ wx.cell? ⟨w.heap.size, 5, none⟩ = some (.slice c5 c5l c5c) ∧ wx.cell? ⟨sb, so, none⟩ = some (.string key))
            (first
              | with_reducible exact SK2.out _ _ _ _ _ _ _ _ (by omega) (by omega) (SK.out _ hV5)
              | with_reducible exact SK.out _ hV5
              | with_reducible exact SK.out _ (bbox hV5 _ hV5.size)
              | exact SK.out _ (Below.refl _ _).drew
              | exact SK.out _ (bbox (Below.refl _ _) _ (Nat.le_refl _)).drew
              | exact SK.out _ ((bbox (Below.refl _ _) _ (Nat.le_refl _)))
              | fail)
            (first
             | (go_at_call 37
                with_reducible refine (GT.out _ (REF.out.drew)).mono ?_
                rintro e w5 ⟨es, rfl, hL5, hb5⟩
                obtain ⟨d0, d1, d2, d3, d4, d4l, d4c, d5, d5l, d5c, rfl⟩ := hL5.six
                have hV5 : Below v1.heap.size v1 w5 := undrew hb5
                have hs5 := hV5.size)
             | (go_at_call 37
                refine (GT.out _ (bbox REF.out (.cells zeroV 25) REF.out.size).drew).mono ?_
                rintro e w5 ⟨es, rfl, hL5, hb5⟩
                obtain ⟨d0, d1, d2, d3, d4, d4l, d4c, d5, d5l, d5c, rfl⟩ := hL5.six
                have hV5 : Below v1.heap.size v1 w5 := bunbox (undrew hb5) (Nat.le_refl _) (by simp)
                have hs5 : v1.heap.size + 1 ≤ w5.heap.size := by have := hb5.size; simp only [World.size_drew, World.size_alloc] at this; omega
                have Z5 := Lib.hid ((Box6.new v1 zeroV 25).later (undrew hb5) (by simp))
                obtain ⟨z0, z1, z2, z3, z4, z5⟩ := Z5.out.six
                obtain ⟨f0, f1, f2, f3, f4, f5⟩ := ((Thaw.new v1 zeroV 25).later (undrew hb5) (by simp)).six))
          · go_wp2_with fail
            go_meet
            case rel => exact ⟨w5.heap.size, _, rfl, rfl, Box6.new w5 _ 25, (hL5.later ((Below.refl _ w5).alloc (Nat.le_refl _) _)).weaken (fun _ hq => hq), by simp, hs5, bbox hV5 _ hV5.size⟩
          · go_wp2_with fail
            go_meet
            case rel => exact ⟨v1.heap.size, _, rfl, rfl, Z5.out.store rfl _ _ _ _ _ _, (hL5.keep (w' := setRow w5 v1.heap.size 0 [.int .i64 d0, .bool d1, .int .i64 d2, .string d3, .slice d4 d4l d4c, .slice d5 d5l d5c]) (fun bb hb => setRow_heap _ _ _ _ _ (by have := hb.2; omega))).weaken (fun _ hq => hq), by show _ < (setRow w5 v1.heap.size 0 [.int .i64 d0, .bool d1, .int .i64 d2, .string d3, .slice d4 d4l d4c, .slice d5 d5l d5c]).heap.size; rw [setRow_size]; omega, Nat.le_refl _, setRow_below v1.heap.size (Nat.le_refl _) [.int .i64 d0, .bool d1, .int .i64 d2, .string d3, .slice d4 d4l d4c, .slice d5 d5l d5c] w5 0 hV5⟩
        case rest =>
          obtain ⟨g1, es1, rfl, rfl, HG1, HL1, hg1, hgv, hb3⟩ := hcut
          obtain ⟨u, rfl⟩ : ∃ u : World, u = wc := ⟨_, rfl⟩
          obtain ⟨e0, e1, e2, e3, e4, e4l, e4c, e5, e5l, e5c, rfl⟩ := HL1.out.six
          have hs3 := hb3.size
          have HB4 := Lib.hid hb3
          have hin : Lies w0 (fun b => R1 b ∧ b < w0.heap.size) ((findR key t.map).getD T.nil) #[.int .i64 e0, .bool e1, .int .i64 e2, .string e3, .slice e4 e4l e4c, .slice e5 e5l e5c] := HL1.out.keep (w' := w0) (fun b hb => ((bstep HWA.out HB4.out HWA.out.size).block b hb.2).symm)
          have HIN := Lib.hid hin
          have BZ6 := Lib.hid (ZA.out.later hb3 (by omega))
          have TZ6 := Lib.hid (TA.out.later hb3 (by omega))
          have BV6 := Lib.hid (BA.out.later hb3 (by omega))
          have HBW := Lib.hid (bstep HBA.out hb3 HBA.out.size)
          have k6 := cells_frame hb3 KA.out
          have K6 := Lib.hid k6
          clear hin hb3 GT SK SK2 REF
          have hus : w.heap.size + 2 ≤ u.heap.size := by omega
          obtain ⟨c0', c1', c2', c3', c4', c5'⟩ := BV6.out.six
          have HWU := Lib.hid (bstep HW.out HBW.out HW.out.size)
          have DR6 : Hid (∀ wb : World, Below u.heap.size u wb → Calls Try.prog 41 #[.agg #[.int .i64 c0, .bool c1, .int .i64 c2, .string c3, .slice c4 c4l c4c, .slice c5 c5l c5c], .string key] wb fun e w' => ∃ vs, e = .returned (.agg vs) ∧ Lies w' (fun b => b < w0.heap.size ∨ u.heap.size ≤ b) (rdropT key t) vs ∧ Below wb.heap.size wb w') := fun wb hwb => by
            refine (rDrop_any H1.out key hmt wb (bstep HWU.out hwb HWU.out.size)).mono ?_
            rintro e w' ⟨vs, he, hv, hb⟩
            have hs := hwb.size
            refine ⟨vs, he, hv.weaken fun b hb => ?_, hb⟩
            rcases hb with ⟨_, h⟩ | h
            · exact .inl h
            · exact .inr (by omega)
          have PU6 : Hid (∀ (wb : World) (y : T) (ys : Array Value), Below u.heap.size u wb → Lies wb (fun b => b < w0.heap.size ∨ u.heap.size ≤ b) y ys → Calls Try.prog 39 #[.agg #[.int .i64 c0, .bool c1, .int .i64 c2, .string c3, .slice c4 c4l c4c, .slice c5 c5l c5c], .string key, .agg ys] wb fun e w' => ∃ vs, e = .returned (.agg vs) ∧ Lies w' (fun b => b < w0.heap.size ∨ u.heap.size ≤ b) (mk5 (rputG key y false t.map)) vs ∧ Below wb.heap.size wb w') := fun wb y ys hwb hL => by
            refine (rPut_any ((H1.out.bound.weaken (R' := fun b => b < w0.heap.size) fun _ h => h.2).later (bstep HWU.out hwb HWU.out.size)) hL key HKEY.out hmt wb (Below.refl _ _)).mono ?_
            rintro e w' ⟨vs, he, hv, hb⟩
            have hs := hwb.size
            refine ⟨vs, he, hv.weaken fun b hb => ?_, hb⟩
            rcases hb with ⟨h | h, _⟩ | h
            · exact .inl h
            · exact h
            · exact .inr (by omega)
          obtain ⟨inT, hinT⟩ : ∃ inT, inT = (findR key t.map).getD T.nil := ⟨_, rfl⟩
          have HINT := Lib.hid hinT
          have hins : inT.size ≤ 1000000 := by
            rw [HINT.out]
            exact Nat.le_trans (findD_size key t) hsz
          rw [← hinT] at HIN
          have IH6 : Hid (∀ w', Below u.heap.size u w' → Calls Try.prog 57 #[.agg #[.int .i64 e0, .bool e1, .int .i64 e2, .string e3, .slice e4 e4l e4c, .slice e5 e5l e5c], .slice (restA sb so sc) r.length (sc - 1)] w' (Laid w0 w' (pruneQ r inT))) := fun w' hw' => IH.out HIN.out (rest_texts HS.out) hins w' (bstep HWU.out hw' HWU.out.size)
          have hle := HS.out.le
          have hsc0 : 1 ≤ sc := by simp only [List.length_cons] at hle; omega
          have hI2 : (r.length : Int) + 1 ≤ (sc : Int) := by simp only [List.length_cons] at hle; omega
          have hI1 : (1 : Int) ≤ (r.length : Int) + 1 := by omega
          have hI3 : (sc : Int) ≤ (sc : Int) := Int.le_refl _
          clear hle
          clear hinT hl1
          generalize hfs : (findR key t.map).isSome = fs
          clear hfs
          go_upto_region 9 with fail
          have SKC : ∀ (wx : World) (g : Nat) (v0 v1 v2 v3 v4 v5 : Value) (bb j : Nat), g ≠ bb → ((((((wx.setCell ⟨g, 0, none⟩ v0).setCell ⟨g, 1, none⟩ v1).setCell ⟨g, 2, none⟩ v2).setCell ⟨g, 3, none⟩ v3).setCell ⟨g, 4, none⟩ v4).setCell ⟨g, 5, none⟩ v5).cell? ⟨bb, j, none⟩ = wx.cell? ⟨bb, j, none⟩ := fun wx g v0 v1 v2 v3 v4 v5 bb j hg => by
            rw [World.cell?_setCell_other _ _ _ _ (by intro e; have := congrArg Addr.block e; simp only at this; omega), World.cell?_setCell_other _ _ _ _ (by intro e; have := congrArg Addr.block e; simp only at this; omega), World.cell?_setCell_other _ _ _ _ (by intro e; have := congrArg Addr.block e; simp only at this; omega), World.cell?_setCell_other _ _ _ _ (by intro e; have := congrArg Addr.block e; simp only at this; omega), World.cell?_setCell_other _ _ _ _ (by intro e; have := congrArg Addr.block e; simp only at this; omega), World.cell?_setCell_other _ _ _ _ (by intro e; have := congrArg Addr.block e; simp only at this; omega)]
          have SK2 : Hid (∀ (wx : World) (g : Nat) (v0 v1 v2 v3 v4 v5 : Value), g ≠ g1 → wx.cell? ⟨g1, 0, none⟩ = some (.int .i64 e0) ∧ wx.cell? ⟨g1, 1, none⟩ = some (.bool e1) ∧ wx.cell? ⟨g1, 2, none⟩ = some (.int .i64 e2) ∧ wx.cell? ⟨g1, 3, none⟩ = some (.string e3) ∧ wx.cell? ⟨g1, 4, none⟩ = some (.slice e4 e4l e4c) ∧ wx.cell? ⟨g1, 5, none⟩ = some (.slice e5 e5l e5c) → ((((((wx.setCell ⟨g, 0, none⟩ v0).setCell ⟨g, 1, none⟩ v1).setCell ⟨g, 2, none⟩ v2).setCell ⟨g, 3, none⟩ v3).setCell ⟨g, 4, none⟩ v4).setCell ⟨g, 5, none⟩ v5).cell? ⟨g1, 0, none⟩ = some (.int .i64 e0) ∧ ((((((wx.setCell ⟨g, 0, none⟩ v0).setCell ⟨g, 1, none⟩ v1).setCell ⟨g, 2, none⟩ v2).setCell ⟨g, 3, none⟩ v3).setCell ⟨g, 4, none⟩ v4).setCell ⟨g, 5, none⟩ v5).cell? ⟨g1, 1, none⟩ = some (.bool e1) ∧ ((((((wx.setCell ⟨g, 0, none⟩ v0).setCell ⟨g, 1, none⟩ v1).setCell ⟨g, 2, none⟩ v2).setCell ⟨g, 3, none⟩ v3).setCell ⟨g, 4, none⟩ v4).setCell ⟨g, 5, none⟩ v5).cell? ⟨g1, 2, none⟩ = some (.int .i64 e2) ∧ ((((((wx.setCell ⟨g, 0, none⟩ v0).setCell ⟨g, 1, none⟩ v1).setCell ⟨g, 2, none⟩ v2).setCell ⟨g, 3, none⟩ v3).setCell ⟨g, 4, none⟩ v4).setCell ⟨g, 5, none⟩ v5).cell? ⟨g1, 3, none⟩ = some (.string e3) ∧ ((((((wx.setCell ⟨g, 0, none⟩ v0).setCell ⟨g, 1, none⟩ v1).setCell ⟨g, 2, none⟩ v2).setCell ⟨g, 3, none⟩ v3).setCell ⟨g, 4, none⟩ v4).setCell ⟨g, 5, none⟩ v5).cell? ⟨g1, 4, none⟩ = some (.slice e4 e4l e4c) ∧ ((((((wx.setCell ⟨g, 0, none⟩ v0).setCell ⟨g, 1, none⟩ v1).setCell ⟨g, 2, none⟩ v2).setCell ⟨g, 3, none⟩ v3).setCell ⟨g, 4, none⟩ v4).setCell ⟨g, 5, none⟩ v5).cell? ⟨g1, 5, none⟩ = some (.slice e5 e5l e5c)) := fun wx g v0 v1 v2 v3 v4 v5 hg h => by
            simp only [SKC _ _ _ _ _ _ _ _ _ _ hg]
            exact h
          clear SKC
          have SK : Hid (∀ wx : World, Below u.heap.size u wx → wx.cell? ⟨g1, 0, none⟩ = some (.int .i64 e0) ∧ wx.cell? ⟨g1, 1, none⟩ = some (.bool e1) ∧ wx.cell? ⟨g1, 2, none⟩ = some (.int .i64 e2) ∧ wx.cell? ⟨g1, 3, none⟩ = some (.string e3) ∧ wx.cell? ⟨g1, 4, none⟩ = some (.slice e4 e4l e4c) ∧ wx.cell? ⟨g1, 5, none⟩ = some (.slice e5 e5l e5c)) := fun wx hx => (HG1.out.later hx hg1).six
          have REF : Hid (Below u.heap.size u u) := Below.refl _ _
          obtain ⟨qT, hqT⟩ : ∃ qT, qT = pruneQ r inT := ⟨_, rfl⟩
          have HQT := Lib.hid hqT
          have IH7 : Hid (∀ w', Below u.heap.size u w' → Calls Try.prog 57 #[.agg #[.int .i64 e0, .bool e1, .int .i64 e2, .string e3, .slice e4 e4l e4c, .slice e5 e5l e5c], .slice (if sc = 1 then some ⟨sb, so, none⟩ else some ⟨sb, so + 1, none⟩) r.length (sc - 1)] w' (Laid w0 w' qT)) := by rw [hqT]; exact IH6
          clear hqT
          go_cut [9] (fun p wx => ∃ (g : Nat) (ds : Array Value), p = .pointer (some ⟨g, 0, none⟩) ∧ Hid (Box6 wx g ds) ∧ Hid (Lies wx (fun b => (b < w0.heap.size ∨ u.heap.size ≤ b) ∧ b ≠ g) qT ds) ∧ g < wx.heap.size ∧ u.heap.size ≤ g ∧ Below u.heap.size u wx)
          case first =>
            by_cases hc1 : sc = 1
            · have hc2 : (sc = 1) = True := by simp [hc1]
              have IH8 : Hid (∀ w', Below u.heap.size u w' → Calls Try.prog 57 #[.agg #[.int .i64 e0, .bool e1, .int .i64 e2, .string e3, .slice e4 e4l e4c, .slice e5 e5l e5c], .slice (some ⟨sb, so, none⟩) r.length (sc - 1)] w' (Laid w0 w' qT)) := by
                have h := IH7.out
                rw [if_pos hc1] at h
                exact h
              clear hc1 IH7
              go_region_held3 (fun wx : World => wx.cell? ⟨g1, 0, none⟩ = some (.int .i64 e0) ∧ wx.cell? ⟨g1, 1, none⟩ = some (.bool e1) ∧ wx.cell? ⟨g1, 2, none⟩ = some (.int .i64 e2) ∧ wx.cell? ⟨g1, 3, none⟩ = some (.string e3) ∧ wx.cell? ⟨g1, 4, none⟩ = some (.slice e4 e4l e4c) ∧ wx.cell? ⟨g1, 5, none⟩ = some (.slice e5 e5l e5c))
                (first
                  | with_reducible exact SK2.out _ _ _ _ _ _ _ _ (by omega) (SK.out _ hV5)
                  | with_reducible exact SK.out _ hV5
                  | with_reducible exact SK.out _ (bbox hV5 _ hV5.size)
                  | exact SK.out _ (Below.refl _ _).drew
                  | exact SK.out _ (bbox (Below.refl _ _) _ (Nat.le_refl _)).drew
                  | exact SK.out _ ((bbox (Below.refl _ _) _ (Nat.le_refl _)))
                  | fail)
                (first
                 | (go_at_call 57
                    with_reducible refine (IH8.out _ (REF.out.drew)).mono ?_
                    rintro e w5 ⟨ms, rfl, hL5, hb5⟩
                    obtain ⟨m0, m1, m2, m3, m4, m4l, m4c, m5, m5l, m5c, rfl⟩ := hL5.six
                    have hV5 : Below u.heap.size u w5 := undrew hb5
                    have hs5 := hV5.size)
                 | (go_at_call 57
                    refine (IH8.out _ (bbox REF.out (.cells zeroV 25) REF.out.size).drew).mono ?_
                    rintro e w5 ⟨ms, rfl, hL5, hb5⟩
                    obtain ⟨m0, m1, m2, m3, m4, m4l, m4c, m5, m5l, m5c, rfl⟩ := hL5.six
                    have hV5 : Below u.heap.size u w5 := bunbox (undrew hb5) (Nat.le_refl _) (by simp)
                    have hs5 : u.heap.size + 1 ≤ w5.heap.size := by have := hb5.size; simp only [World.size_drew, World.size_alloc] at this; omega
                    have Z5 := Lib.hid ((Box6.new u zeroV 25).later (undrew hb5) (by simp))
                    obtain ⟨z0, z1, z2, z3, z4, z5⟩ := Z5.out.six
                    obtain ⟨f0, f1, f2, f3, f4, f5⟩ := ((Thaw.new u zeroV 25).later (undrew hb5) (by simp)).six))
              · go_wp2_with fail
                go_meet
                case rel => exact ⟨w5.heap.size, _, rfl, Box6.new w5 _ 25, ((hL5.bound.later ((Below.refl _ w5).alloc (Nat.le_refl _) _)).weaken (fun b hq => ⟨by rcases hq.1 with h | h; exact .inl h; exact .inr (by simpa using h), by have := hq.2; omega⟩)), by simp, hs5, bbox hV5 _ hV5.size⟩
              · go_wp2_with fail
                go_meet
                case rel => exact ⟨u.heap.size, _, rfl, Z5.out.store rfl _ _ _ _ _ _, (hL5.keep (w' := setRow w5 u.heap.size 0 [.int .i64 m0, .bool m1, .int .i64 m2, .string m3, .slice m4 m4l m4c, .slice m5 m5l m5c]) (fun bb hb => setRow_heap _ _ _ _ _ (by rcases hb with h | h; omega; simp only [World.size_drew, World.size_alloc] at h; omega))).weaken (fun b hq => by rcases hq with h | h; exact ⟨.inl h, by omega⟩; simp only [World.size_drew, World.size_alloc] at h; exact ⟨.inr (by omega), by omega⟩), by show _ < (setRow w5 u.heap.size 0 [.int .i64 m0, .bool m1, .int .i64 m2, .string m3, .slice m4 m4l m4c, .slice m5 m5l m5c]).heap.size; rw [setRow_size]; omega, Nat.le_refl _, setRow_below u.heap.size (Nat.le_refl _) [.int .i64 m0, .bool m1, .int .i64 m2, .string m3, .slice m4 m4l m4c, .slice m5 m5l m5c] w5 0 hV5⟩
            · have hc2 : (sc = 1) = False := by simp [hc1]
              have IH8 : Hid (∀ w', Below u.heap.size u w' → Calls Try.prog 57 #[.agg #[.int .i64 e0, .bool e1, .int .i64 e2, .string e3, .slice e4 e4l e4c, .slice e5 e5l e5c], .slice (some ⟨sb, so + 1, none⟩) r.length (sc - 1)] w' (Laid w0 w' qT)) := by
                have h := IH7.out
                rw [if_neg hc1] at h
                exact h
              clear hc1 IH7
              go_region_held3 (fun wx : World => wx.cell? ⟨g1, 0, none⟩ = some (.int .i64 e0) ∧ wx.cell? ⟨g1, 1, none⟩ = some (.bool e1) ∧ wx.cell? ⟨g1, 2, none⟩ = some (.int .i64 e2) ∧ wx.cell? ⟨g1, 3, none⟩ = some (.string e3) ∧ wx.cell? ⟨g1, 4, none⟩ = some (.slice e4 e4l e4c) ∧ wx.cell? ⟨g1, 5, none⟩ = some (.slice e5 e5l e5c))
                (first
                  | with_reducible exact SK2.out _ _ _ _ _ _ _ _ (by omega) (SK.out _ hV5)
                  | with_reducible exact SK.out _ hV5
                  | with_reducible exact SK.out _ (bbox hV5 _ hV5.size)
                  | exact SK.out _ (Below.refl _ _).drew
                  | exact SK.out _ (bbox (Below.refl _ _) _ (Nat.le_refl _)).drew
                  | exact SK.out _ ((bbox (Below.refl _ _) _ (Nat.le_refl _)))
                  | fail)
                (first
                 | (go_at_call 57
                    with_reducible refine (IH8.out _ (REF.out.drew)).mono ?_
                    rintro e w5 ⟨ms, rfl, hL5, hb5⟩
                    obtain ⟨m0, m1, m2, m3, m4, m4l, m4c, m5, m5l, m5c, rfl⟩ := hL5.six
                    have hV5 : Below u.heap.size u w5 := undrew hb5
                    have hs5 := hV5.size)
                 | (go_at_call 57
                    refine (IH8.out _ (bbox REF.out (.cells zeroV 25) REF.out.size).drew).mono ?_
                    rintro e w5 ⟨ms, rfl, hL5, hb5⟩
                    obtain ⟨m0, m1, m2, m3, m4, m4l, m4c, m5, m5l, m5c, rfl⟩ := hL5.six
                    have hV5 : Below u.heap.size u w5 := bunbox (undrew hb5) (Nat.le_refl _) (by simp)
                    have hs5 : u.heap.size + 1 ≤ w5.heap.size := by have := hb5.size; simp only [World.size_drew, World.size_alloc] at this; omega
                    have Z5 := Lib.hid ((Box6.new u zeroV 25).later (undrew hb5) (by simp))
                    obtain ⟨z0, z1, z2, z3, z4, z5⟩ := Z5.out.six
                    obtain ⟨f0, f1, f2, f3, f4, f5⟩ := ((Thaw.new u zeroV 25).later (undrew hb5) (by simp)).six))
              · go_wp2_with fail
                go_meet
                case rel => exact ⟨w5.heap.size, _, rfl, Box6.new w5 _ 25, ((hL5.bound.later ((Below.refl _ w5).alloc (Nat.le_refl _) _)).weaken (fun b hq => ⟨by rcases hq.1 with h | h; exact .inl h; exact .inr (by simpa using h), by have := hq.2; omega⟩)), by simp, hs5, bbox hV5 _ hV5.size⟩
              · go_wp2_with fail
                go_meet
                case rel => exact ⟨u.heap.size, _, rfl, Z5.out.store rfl _ _ _ _ _ _, (hL5.keep (w' := setRow w5 u.heap.size 0 [.int .i64 m0, .bool m1, .int .i64 m2, .string m3, .slice m4 m4l m4c, .slice m5 m5l m5c]) (fun bb hb => setRow_heap _ _ _ _ _ (by rcases hb with h | h; omega; simp only [World.size_drew, World.size_alloc] at h; omega))).weaken (fun b hq => by rcases hq with h | h; exact ⟨.inl h, by omega⟩; simp only [World.size_drew, World.size_alloc] at h; exact ⟨.inr (by omega), by omega⟩), by show _ < (setRow w5 u.heap.size 0 [.int .i64 m0, .bool m1, .int .i64 m2, .string m3, .slice m4 m4l m4c, .slice m5 m5l m5c]).heap.size; rw [setRow_size]; omega, Nat.le_refl _, setRow_below u.heap.size (Nat.le_refl _) [.int .i64 m0, .bool m1, .int .i64 m2, .string m3, .slice m4 m4l m4c, .slice m5 m5l m5c] w5 0 hV5⟩
          case rest =>
            obtain ⟨g2, ms, rfl, HG2, HL2, hg2, hgu2, hb9⟩ := hcut
            obtain ⟨u2, rfl⟩ : ∃ u2 : World, u2 = wc := ⟨_, rfl⟩
            obtain ⟨m0, m1, m2, m3, m4, m4l, m4c, m5, m5l, m5c, rfl⟩ := HL2.out.six
            have hs9 := hb9.size
            have BV7 := Lib.hid (BV6.out.later hb9 (by omega))
            have BZ7 := BZ6
            have TZ7 := TZ6
            have BZ6 := Lib.hid (BZ7.out.later hb9 (by omega))
            have TZ6 := Lib.hid (TZ7.out.later hb9 (by omega))
            have HBX := Lib.hid (bstep HBW.out hb9 HBW.out.size)
            have HUX := Lib.hid hb9
            have k7 := cells_frame hb9 K6.out
            obtain ⟨x0', x1', x2', x3', x4', x5'⟩ := HG2.out.six
            obtain ⟨y0', y1', y2', y3', y4', y5'⟩ := BV7.out.six
            have hml : qT.map.length = m5l := map_cell HL2.out
            clear hb9 SK SK2 REF IH6 IH7 k6 c0' c1' c2' c3' c4' c5'
            have H0 := Lib.hid hml
            by_cases h0 : m5l = 0
            · have hl2 : ((m5l : Int) == 0) = true := by rw [h0]; rfl
              have DR7 : Hid (∀ wb : World, Below u2.heap.size u2 wb → Calls Try.prog 41 #[.agg #[.int .i64 c0, .bool c1, .int .i64 c2, .string c3, .slice c4 c4l c4c, .slice c5 c5l c5c], .string key] wb fun e w' => ∃ vs, e = .returned (.agg vs) ∧ Lies w' (fun b => b < w0.heap.size ∨ u.heap.size ≤ b) (rdropT key t) vs ∧ Below wb.heap.size wb w') := fun wb hwb => DR6.out wb (bstep HUX.out hwb HUX.out.size)
              have HZ : Hid (qT.map.length = 0) := by show _ = _; rw [hml, h0]
              clear hml
              go_upto_region 11 with fail
              clear h0 hl2
              refine wp_region_specs2 u2 5 (fun i => 47 + i) (fun i x wx => match i with | 0 => x = .agg #[.int .i64 c0, .bool c1, .int .i64 c2, .string c3, .slice c4 c4l c4c, .slice c5 c5l c5c] | 1 => x = .slice (some ⟨sb, so, none⟩) (r.length + 1) sc | 2 => x = .pointer (some ⟨sb, so, none⟩) | 3 => x = .string key | 4 => ∃ ds : Array Value, x = .agg ds ∧ Lies wx (fun b => b < w0.heap.size ∨ u.heap.size ≤ b) (rdropT key t) ds | _ => True) (fun _ wx => ∃ (vs : List Value) (wb : World), vs.length = 6 ∧ Below u2.heap.size u2 wb ∧ Lies wb (fun b => b < w0.heap.size ∨ u.heap.size ≤ b) (rdropT key t) vs.toArray ∧ wx = setRow wb (w.heap.size + 1) 0 vs) (by kernel_rfl) (by kernel_rfl) ?s1 (Below.refl _ _) ?s2 ?s3 ?s4 ?s5
              case s1 => intro i hi; exact Nat.lt_of_lt_of_le (show 47 + i < 58 by omega) (Nat.le_refl 58)
              case s2 =>
                intro i x w1 w2 hb hU
                match i, hU with
                | 4, ⟨ds, e, hL⟩ => exact ⟨ds, e, hL.later hb⟩
                | 0, h | 1, h | 2, h | 3, h => exact h
                | (n + 5), _ => trivial
              case s3 =>
                intro i o ac wb K' ho hi hA hB hdep hK
                have sv1 : ac.tmps[1]?.getD undef = .slice (some ⟨sb, so, none⟩) (r.length + 1) sc := hA.sl (t := 1) (by decide)
                have sv2 : ac.tmps[2]?.getD undef = .pointer (some ⟨w.heap.size, 0, none⟩) := hA.sl (t := 2) (by decide)
                have sv4 : ac.tmps[4]?.getD undef = .pointer (some ⟨w.heap.size + 1, 0, none⟩) := hA.sl (t := 4) (by decide)
                have y0' := cells_frame hB y0'
                have y1' := cells_frame hB y1'
                have y2' := cells_frame hB y2'
                have y3' := cells_frame hB y3'
                have y4' := cells_frame hB y4'
                have y5' := cells_frame hB y5'
                have k7 := cells_frame hB k7
                rcases (by omega : i = 0 ∨ i = 1 ∨ i = 2 ∨ i = 3 ∨ i = 4) with rfl | rfl | rfl | rfl | rfl
                · simp at ho
                  subst ho
                  clear hdep hA
                  go_simp
                  exact hK _ wb (Below.refl _ _) rfl
                · simp at ho
                  subst ho
                  clear hdep hA
                  go_simp
                  exact hK _ wb (Below.refl _ _) rfl
                · simp at ho
                  subst ho
                  have y1 : ac.tmps[48]?.getD undef = .slice (some ⟨sb, so, none⟩) (r.length + 1) sc := hdep { on := 1, ground := .data } (by simp) rfl
                  clear hdep hA
                  go_simp
                  exact hK _ wb (Below.refl _ _) rfl
                · simp at ho
                  subst ho
                  have y2 : ac.tmps[49]?.getD undef = .pointer (some ⟨sb, so, none⟩) := hdep { on := 2, ground := .data } (by simp) rfl
                  clear hdep hA
                  go_simp
                  exact hK _ wb (Below.refl _ _) rfl
                · simp at ho
                  subst ho
                  have y0 : ac.tmps[47]?.getD undef = .agg #[.int .i64 c0, .bool c1, .int .i64 c2, .string c3, .slice c4 c4l c4c, .slice c5 c5l c5c] := hdep { on := 0, ground := .data } (by simp) rfl
                  have y3 : ac.tmps[50]?.getD undef = .string key := hdep { on := 3, ground := .data } (by simp) rfl
                  clear hdep hA
                  go_simp
                  refine (DR7.out wb hB).mono ?_
                  rintro e w5 ⟨vs, rfl, hL, hb5⟩
                  exact hK _ w5 hb5 ⟨vs, rfl, hL⟩
              case s4 =>
                intro o ac wb K' ho hA hB hU hK
                have sv1 : ac.tmps[1]?.getD undef = .slice (some ⟨sb, so, none⟩) (r.length + 1) sc := hA.sl (t := 1) (by decide)
                have sv2 : ac.tmps[2]?.getD undef = .pointer (some ⟨w.heap.size, 0, none⟩) := hA.sl (t := 2) (by decide)
                have sv4 : ac.tmps[4]?.getD undef = .pointer (some ⟨w.heap.size + 1, 0, none⟩) := hA.sl (t := 4) (by decide)
                have y0' := cells_frame hB y0'
                have y1' := cells_frame hB y1'
                have y2' := cells_frame hB y2'
                have y3' := cells_frame hB y3'
                have y4' := cells_frame hB y4'
                have y5' := cells_frame hB y5'
                have k7 := cells_frame hB k7
                simp at ho
                subst ho
                obtain ⟨dsy4, y4, hLy4⟩ := hU 4 (by omega)
                obtain ⟨n0, n1, n2, n3, n4, n4l, n4c, n5, n5l, n5c, rfl⟩ := hLy4.six
                have y4 : ac.tmps[51]?.getD undef = _ := y4
                clear hU hA
                obtain ⟨z0', z1', z2', z3', z4', z5'⟩ := (BZ6.out.later hB (by omega)).six
                obtain ⟨f0, f1, f2, f3, f4, f5⟩ := (TZ6.out.later hB (by omega)).six
                go_simp
                exact hK _ ⟨[.int .i64 n0, .bool n1, .int .i64 n2, .string n3, .slice n4 n4l n4c, .slice n5 n5l n5c], wb, rfl, hB, hLy4, rfl⟩
              case s5 =>
                intro ac wn hA hF
                have hs : slots 5 (fun i => 47 + i) = [47, 48, 49, 50, 51] := by rfl
                rw [hs] at hA
                have hac := hA.act (fun t ht => by
                  have h8 : t = 47 ∨ t = 48 ∨ t = 49 ∨ t = 50 ∨ t = 51 := by simpa using ht
                  rcases h8 with rfl | rfl | rfl | rfl | rfl <;> exact Nat.lt_of_lt_of_le (by decide : _ < 58) (Nat.le_refl 58))
                rw [List.foldl_cons, List.foldl_cons, List.foldl_cons, List.foldl_cons, List.foldl_cons, List.foldl_nil] at hac
                generalize sl ac 47 = x47 at hac
                generalize sl ac 48 = x48 at hac
                generalize sl ac 49 = x49 at hac
                generalize sl ac 50 = x50 at hac
                generalize sl ac 51 = x51 at hac
                clear hA hs
                subst hac
                simp only [Act.put, List.setIfInBounds_toArray, List.set_cons_succ, List.set_cons_zero]
                obtain ⟨vs, w7, hlen, hb7, hl7, rfl⟩ := hF
                have H7 := Lib.hid hb7
                have L7 := Lib.hid hl7
                have HLEN := Lib.hid hlen
                have BR7 := Lib.hid (BZ6.out.later hb7 (by omega))
                clear hb7 hl7 hlen
                generalize hW : setRow w7 (w.heap.size + 1) 0 vs = W7
                have HW7 := Lib.hid hW.symm
                clear hW
                go_wp2_with fail
                refine ret_cells w7 (w.heap.size + 1) vs HW7.out Try.results57 rfl rfl DD.out HU.out (by rw [HLEN.out]; exact Try.sizeV) (fun i hi => ⟨_, (BR7.out i (by rw [← HLEN.out]; exact hi)).trans (Array.getElem?_eq_getElem (show i < 6 by rw [← HLEN.out]; exact hi))⟩) ?_
                have hq : pruneQ (key :: r) t = rdropT key t := by rw [pruneQ, if_pos HGQ.out, if_neg HR.out, ← HINT.out, ← HQT.out, if_pos HZ.out]
                rw [hq]
                have hs7 := H7.out.size
                exact ⟨_, rfl, (L7.out.keep (fun b hb => setRow_heap _ _ _ _ _ (by omega))).weaken (fun b hb => by omega), setRow_below _ (by omega) _ _ _ (bstep HBX.out H7.out HBX.out.size)⟩
            · have hl2 : ((m5l : Int) == 0) = false := by rw [beq_eq_false_iff_ne]; omega
              have PU7 : Hid (∀ wb : World, Below u2.heap.size u2 wb → Calls Try.prog 39 #[.agg #[.int .i64 c0, .bool c1, .int .i64 c2, .string c3, .slice c4 c4l c4c, .slice c5 c5l c5c], .string key, .agg #[.int .i64 m0, .bool m1, .int .i64 m2, .string m3, .slice m4 m4l m4c, .slice m5 m5l m5c]] wb fun e w' => ∃ vs, e = .returned (.agg vs) ∧ Lies w' (fun b => b < w0.heap.size ∨ u.heap.size ≤ b) (mk5 (rputG key qT false t.map)) vs ∧ Below wb.heap.size wb w') := fun wb hwb => PU6.out wb qT _ (bstep HUX.out hwb HUX.out.size) ((HL2.out.later hwb).weaken fun b hb => hb.1)
              have HZ : Hid (¬ qT.map.length = 0) := by show ¬ _; rw [hml]; exact h0
              clear hml h0
              go_upto_region 12 with fail
              clear hl2
              refine wp_region_specs2 u2 6 (fun i => 52 + i) (fun i x wx => match i with | 0 => x = .agg #[.int .i64 c0, .bool c1, .int .i64 c2, .string c3, .slice c4 c4l c4c, .slice c5 c5l c5c] | 1 => x = .slice (some ⟨sb, so, none⟩) (r.length + 1) sc | 2 => x = .pointer (some ⟨sb, so, none⟩) | 3 => x = .string key | 4 => x = .agg #[.int .i64 m0, .bool m1, .int .i64 m2, .string m3, .slice m4 m4l m4c, .slice m5 m5l m5c] | 5 => ∃ ds : Array Value, x = .agg ds ∧ Lies wx (fun b => b < w0.heap.size ∨ u.heap.size ≤ b) (mk5 (rputG key qT false t.map)) ds | _ => True) (fun _ wx => ∃ (vs : List Value) (wb : World), vs.length = 6 ∧ Below u2.heap.size u2 wb ∧ Lies wb (fun b => b < w0.heap.size ∨ u.heap.size ≤ b) (mk5 (rputG key qT false t.map)) vs.toArray ∧ wx = setRow wb (w.heap.size + 1) 0 vs) (by kernel_rfl) (by kernel_rfl) ?s1 (Below.refl _ _) ?s2 ?s3 ?s4 ?s5
              case s1 => intro i hi; exact Nat.lt_of_lt_of_le (show 52 + i < 58 by omega) (Nat.le_refl 58)
              case s2 =>
                intro i x w1 w2 hb hU
                match i, hU with
                | 5, ⟨ds, e, hL⟩ => exact ⟨ds, e, hL.later hb⟩
                | 0, h | 1, h | 2, h | 3, h | 4, h => exact h
                | (n + 6), _ => trivial
              case s3 =>
                intro i o ac wb K' ho hi hA hB hdep hK
                have sv1 : ac.tmps[1]?.getD undef = .slice (some ⟨sb, so, none⟩) (r.length + 1) sc := hA.sl (t := 1) (by decide)
                have sv2 : ac.tmps[2]?.getD undef = .pointer (some ⟨w.heap.size, 0, none⟩) := hA.sl (t := 2) (by decide)
                have sv4 : ac.tmps[4]?.getD undef = .pointer (some ⟨w.heap.size + 1, 0, none⟩) := hA.sl (t := 4) (by decide)
                have sv9 : ac.tmps[9]?.getD undef = .pointer (some ⟨g2, 0, none⟩) := hA.sl (t := 9) (by decide)
                have x0' := cells_frame hB x0'
                have x1' := cells_frame hB x1'
                have x2' := cells_frame hB x2'
                have x3' := cells_frame hB x3'
                have x4' := cells_frame hB x4'
                have x5' := cells_frame hB x5'
                have y0' := cells_frame hB y0'
                have y1' := cells_frame hB y1'
                have y2' := cells_frame hB y2'
                have y3' := cells_frame hB y3'
                have y4' := cells_frame hB y4'
                have y5' := cells_frame hB y5'
                have k7 := cells_frame hB k7
                rcases (by omega : i = 0 ∨ i = 1 ∨ i = 2 ∨ i = 3 ∨ i = 4 ∨ i = 5) with rfl | rfl | rfl | rfl | rfl | rfl
                · simp at ho
                  subst ho
                  clear hdep hA
                  go_simp
                  exact hK _ wb (Below.refl _ _) rfl
                · simp at ho
                  subst ho
                  clear hdep hA
                  go_simp
                  exact hK _ wb (Below.refl _ _) rfl
                · simp at ho
                  subst ho
                  have y1 : ac.tmps[53]?.getD undef = .slice (some ⟨sb, so, none⟩) (r.length + 1) sc := hdep { on := 1, ground := .data } (by simp) rfl
                  clear hdep hA
                  go_simp
                  exact hK _ wb (Below.refl _ _) rfl
                · simp at ho
                  subst ho
                  have y2 : ac.tmps[54]?.getD undef = .pointer (some ⟨sb, so, none⟩) := hdep { on := 2, ground := .data } (by simp) rfl
                  clear hdep hA
                  go_simp
                  exact hK _ wb (Below.refl _ _) rfl
                · simp at ho
                  subst ho
                  clear hdep hA
                  go_simp
                  exact hK _ wb (Below.refl _ _) rfl
                · simp at ho
                  subst ho
                  have y0 : ac.tmps[52]?.getD undef = .agg #[.int .i64 c0, .bool c1, .int .i64 c2, .string c3, .slice c4 c4l c4c, .slice c5 c5l c5c] := hdep { on := 0, ground := .data } (by simp) rfl
                  have y3 : ac.tmps[55]?.getD undef = .string key := hdep { on := 3, ground := .data } (by simp) rfl
                  have y4 : ac.tmps[56]?.getD undef = .agg #[.int .i64 m0, .bool m1, .int .i64 m2, .string m3, .slice m4 m4l m4c, .slice m5 m5l m5c] := hdep { on := 4, ground := .data } (by simp) rfl
                  clear hdep hA
                  go_simp
                  refine (PU7.out wb hB).mono ?_
                  rintro e w5 ⟨vs, rfl, hL, hb5⟩
                  exact hK _ w5 hb5 ⟨vs, rfl, hL⟩
              case s4 =>
                intro o ac wb K' ho hA hB hU hK
                have sv1 : ac.tmps[1]?.getD undef = .slice (some ⟨sb, so, none⟩) (r.length + 1) sc := hA.sl (t := 1) (by decide)
                have sv2 : ac.tmps[2]?.getD undef = .pointer (some ⟨w.heap.size, 0, none⟩) := hA.sl (t := 2) (by decide)
                have sv4 : ac.tmps[4]?.getD undef = .pointer (some ⟨w.heap.size + 1, 0, none⟩) := hA.sl (t := 4) (by decide)
                have sv9 : ac.tmps[9]?.getD undef = .pointer (some ⟨g2, 0, none⟩) := hA.sl (t := 9) (by decide)
                have x0' := cells_frame hB x0'
                have x1' := cells_frame hB x1'
                have x2' := cells_frame hB x2'
                have x3' := cells_frame hB x3'
                have x4' := cells_frame hB x4'
                have x5' := cells_frame hB x5'
                have y0' := cells_frame hB y0'
                have y1' := cells_frame hB y1'
                have y2' := cells_frame hB y2'
                have y3' := cells_frame hB y3'
                have y4' := cells_frame hB y4'
                have y5' := cells_frame hB y5'
                have k7 := cells_frame hB k7
                simp at ho
                subst ho
                obtain ⟨dsy5, y5, hLy5⟩ := hU 5 (by omega)
                obtain ⟨n0, n1, n2, n3, n4, n4l, n4c, n5, n5l, n5c, rfl⟩ := hLy5.six
                have y5 : ac.tmps[57]?.getD undef = _ := y5
                clear hU hA
                obtain ⟨z0', z1', z2', z3', z4', z5'⟩ := (BZ6.out.later hB (by omega)).six
                obtain ⟨f0, f1, f2, f3, f4, f5⟩ := (TZ6.out.later hB (by omega)).six
                go_simp
                exact hK _ ⟨[.int .i64 n0, .bool n1, .int .i64 n2, .string n3, .slice n4 n4l n4c, .slice n5 n5l n5c], wb, rfl, hB, hLy5, rfl⟩
              case s5 =>
                intro ac wn hA hF
                have hs : slots 6 (fun i => 52 + i) = [52, 53, 54, 55, 56, 57] := by rfl
                rw [hs] at hA
                have hac := hA.act (fun t ht => by
                  have h8 : t = 52 ∨ t = 53 ∨ t = 54 ∨ t = 55 ∨ t = 56 ∨ t = 57 := by simpa using ht
                  rcases h8 with rfl | rfl | rfl | rfl | rfl | rfl <;> exact Nat.lt_of_lt_of_le (by decide : _ < 58) (Nat.le_refl 58))
                rw [List.foldl_cons, List.foldl_cons, List.foldl_cons, List.foldl_cons, List.foldl_cons, List.foldl_cons, List.foldl_nil] at hac
                generalize sl ac 52 = x52 at hac
                generalize sl ac 53 = x53 at hac
                generalize sl ac 54 = x54 at hac
                generalize sl ac 55 = x55 at hac
                generalize sl ac 56 = x56 at hac
                generalize sl ac 57 = x57 at hac
                clear hA hs
                subst hac
                simp only [Act.put, List.setIfInBounds_toArray, List.set_cons_succ, List.set_cons_zero]
                obtain ⟨vs, w7, hlen, hb7, hl7, rfl⟩ := hF
                have H7 := Lib.hid hb7
                have L7 := Lib.hid hl7
                have HLEN := Lib.hid hlen
                have BR7 := Lib.hid (BZ6.out.later hb7 (by omega))
                clear hb7 hl7 hlen
                generalize hW : setRow w7 (w.heap.size + 1) 0 vs = W7
                have HW7 := Lib.hid hW.symm
                clear hW
                go_wp2_with fail
                refine ret_cells w7 (w.heap.size + 1) vs HW7.out Try.results57 rfl rfl DD.out HU.out (by rw [HLEN.out]; exact Try.sizeV) (fun i hi => ⟨_, (BR7.out i (by rw [← HLEN.out]; exact hi)).trans (Array.getElem?_eq_getElem (show i < 6 by rw [← HLEN.out]; exact hi))⟩) ?_
                have hq : pruneQ (key :: r) t = mk5 (rputG key qT false t.map) := by rw [pruneQ, if_pos HGQ.out, if_neg HR.out, ← HINT.out, ← HQT.out, if_neg HZ.out]; rfl
                rw [hq]
                have hs7 := H7.out.size
                exact ⟨_, rfl, (L7.out.keep (fun b hb => setRow_heap _ _ _ _ _ (by omega))).weaken (fun b hb => by omega), setRow_below _ (by omega) _ _ _ (bstep HBX.out H7.out HBX.out.size)⟩

theorem r2Prune_any : ∀ ks : List ByteArray, PrunesAt ks
  | [] => fun h1 hS _ w hw => r2Prune_nil h1 hS w hw
  | _ :: r => r2Prune_cons (Lib.hid (r2Prune_any r))

end Go.Proofs.Ytnfmmgbghbaecaa
