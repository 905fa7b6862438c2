/-
  TreeChecks, walked.
-/
import Derived.Test.YtgobgjnnhgcedaaTCheck
import Derived.Test.YtgobgjnnhgcedaaCloneF
import Derived.Test.YtgobgjnnhgcedaaRSame
import Derived.Test.YtgobgjnnhgcedaaAwake
import Derived.Lib.QuietBelow
set_option linter.unusedVariables false
set_option linter.unusedSimpArgs false
namespace Go.Proofs.Ytgobgjnnhgcedaa
open Go.RowKit Go.Sort

theorem lies_pairs {w : World} {R : Nat → Prop} {k : Int} {b : Bool} {n : Int} {s : ByteArray} {l : List T} {m : List (ByteArray × T)} {c0 : Int} {c1 : Bool} {c2 : Int} {c3 : ByteArray} {c4 : Option Addr} {c4l c4c : Nat} {c5 : Option Addr} {c5l c5c : Nat}
    (h : Lies w R (.mk k b n s l m) #[.int .i64 c0, .bool c1, .int .i64 c2, .string c3, .slice c4 c4l c4c, .slice c5 c5l c5c]) : c5l = m.length ∧ ∃ cm, SliceP w R m c5 c5c cm := by
  cases h with
  | mk _ _ _ _ _ _ _ _ _ _ _ cm h1 h2 h3 h4 h5 h6 h7 h8 h9 h10 => exact ⟨rfl, cm, h5, h7, h8, h10⟩

set_option maxRecDepth 100000 in
set_option maxHeartbeats 8000000 in
theorem treeChecks_any {w0 : World} {R : Nat → Prop} {t : T} {cs : Array Value} (h : Lies w0 R t cs) (s : ByteArray) (hs : s.size ≤ 140737488355328) (w : World) (hw : Below w0.heap.size w0 w) :
    Calls Try.prog 3 #[.agg cs, .string s] w fun e w' => e = .returned (.bool true) ∧ Below w.heap.size w w' := by
  have H := Lib.hid h
  have CL := Lib.hid (light_any h)
  have CC := Lib.hid (tCloneF_any h)
  cases h with
  | mk k b n s0 l m la lc ma mc cl cm hk hn hs0 hl hm rl rm ks il im =>
    have HP : Hid (SliceP w0 R m ma mc cm) := ⟨hm, rm, ks, im⟩
    have HB := Lib.hid ((Below.refl w.heap.size w).alloc (Nat.le_refl _) (.cells #[.int .i64 k, .bool b, .int .i64 n, .string s0, .slice la l.length lc, .slice ma m.length mc] 25))
    clear hk hn hs0 hl hm rl rm ks il im
    go_enter Try.func3, Try.ntmps3
    go_wp2_with fail
    refine (CL.out _ (bstep hw HB.out hw.size)).mono ?_
    rintro e w1 ⟨rfl, hb1⟩
    have A1 := Lib.hid (bstep HB.out hb1 (by simp))
    have hsz1 : w.heap.size + 1 ≤ w1.heap.size := by have := hb1.size; simpa using this
    have X1 : Hid (∀ j, w1.cell? ⟨w.heap.size, j, none⟩ = (#[.int .i64 k, .bool b, .int .i64 n, .string s0, .slice la l.length lc, .slice ma m.length mc] : Array Value)[j]?) := (one_boxC hb1).1
    clear hb1
    cases hlt : (T.mk k b n s0 l m).light with
    | false =>
      go_wp2_with fail
      refine (awake_any _).mono ?_
      rintro e w2 ⟨rfl, hb2⟩
      go_wp2_with fail
      go_ret
      exact ⟨rfl, bstep A1.out hb2 A1.out.size⟩
    | true =>
      have hsz : (T.mk k b n s0 l m).size ≤ 6000 := T.light_size hlt
      have hdp : (T.mk k b n s0 l m).depth ≤ 6000 := Nat.le_trans (T.depth_le_size _) hsz
      clear hlt
      by_cases h1000 : 1000 < s.size
      · have f1 : decide ((1000 : Int) < (s.size : Int)) = true := by simp; omega
        go_wp2_with fail
        refine (awake_any _).mono ?_
        rintro e w2 ⟨rfl, hb2⟩
        go_wp2_with fail
        go_ret
        exact ⟨rfl, bstep A1.out hb2 A1.out.size⟩
      have f1 : decide ((1000 : Int) < (s.size : Int)) = false := by simp; omega
      have x0 : w1.cell? ⟨w.heap.size, 0, none⟩ = some (.int .i64 k) := X1.out 0
      have x1 : w1.cell? ⟨w.heap.size, 1, none⟩ = some (.bool b) := X1.out 1
      have x2 : w1.cell? ⟨w.heap.size, 2, none⟩ = some (.int .i64 n) := X1.out 2
      have x3 : w1.cell? ⟨w.heap.size, 3, none⟩ = some (.string s0) := X1.out 3
      have x4 : w1.cell? ⟨w.heap.size, 4, none⟩ = some (.slice la l.length lc) := X1.out 4
      have x5 : w1.cell? ⟨w.heap.size, 5, none⟩ = some (.slice ma m.length mc) := X1.out 5
      go_wp2_with fail
      refine (CC.out _ (bstep hw A1.out hw.size)).mono ?_
      rintro e w2 ⟨ck, cb, cn, csr, cla, cll, clc, cma, cml, cmc, rfl, hLc, hFr, hb2⟩
      have hb2' := Lib.hid hb2
      have A2 := Lib.hid (bbox (bstep A1.out hb2 A1.out.size) (.cells #[.int .i64 ck, .bool cb, .int .i64 cn, .string csr, .slice cla cll clc, .slice cma cml cmc] 25) (by have := A1.out.size; have := hb2.size; omega))
      have hA := Lib.hid ((Below.refl w2.heap.size w2).alloc (Nat.le_refl _) (.cells #[.int .i64 ck, .bool cb, .int .i64 cn, .string csr, .slice cla cll clc, .slice cma cml cmc] 25))
      have hs2 := hb2.size
      have HLC := Lib.hid (hLc.later hA.out)
      have XC : Hid (∀ j, (w2.alloc (.cells #[.int .i64 ck, .bool cb, .int .i64 cn, .string csr, .slice cla cll clc, .slice cma cml cmc] 25)).cell? ⟨w2.heap.size, j, none⟩ = (#[.int .i64 ck, .bool cb, .int .i64 cn, .string csr, .slice cla cll clc, .slice cma cml cmc] : Array Value)[j]?) := fun j => World.cell?_alloc_new _ _ _ _
      have hV := Lib.hid (bstep hb2 hA.out hb2.size)
      have HFR : Hid (0 < m.length → ∀ g o, cma = some ⟨g, o, none⟩ → ∀ j, (w2.alloc (.cells #[.int .i64 ck, .bool cb, .int .i64 cn, .string csr, .slice cla cll clc, .slice cma cml cmc] 25)).frozen? ⟨g, j, none⟩ = false) := fun h0 g o e j => by
        obtain ⟨_, cmx, hsp⟩ := lies_pairs hLc
        have hlt : g < w2.heap.size := Row.lt (hsp.rows 0 h0 g o e) (by rw [Array.size_append]; exact Nat.lt_of_lt_of_le (by decide : 0 < 1) (Nat.le_add_right 1 _))
        rw [World.frozen?_alloc_past _ _ _ hlt]
        exact hFr g o e j
      clear hLc hb2 hFr x0 x1 x2 x3 x4 x5
      generalize hv5 : w2.alloc (.cells #[.int .i64 ck, .bool cb, .int .i64 cn, .string csr, .slice cla cll clc, .slice cma cml cmc] 25) = v5 at *
      go_wp2_with fail
      have F5 := Lib.hid (bstep hw A2.out hw.size)
      have xv := fun j => (hV.out.cell (p := ⟨w.heap.size, j, none⟩) (by simp only; omega)).trans (X1.out j)
      have xa0 : v5.cell? ⟨w.heap.size, 0, none⟩ = some (.int .i64 k) := xv 0
      have ra0 := cell_regrown xa0
      have xa1 : v5.cell? ⟨w.heap.size, 1, none⟩ = some (.bool b) := xv 1
      have ra1 := cell_regrown xa1
      have xa2 : v5.cell? ⟨w.heap.size, 2, none⟩ = some (.int .i64 n) := xv 2
      have ra2 := cell_regrown xa2
      have xa3 : v5.cell? ⟨w.heap.size, 3, none⟩ = some (.string s0) := xv 3
      have ra3 := cell_regrown xa3
      have xa4 : v5.cell? ⟨w.heap.size, 4, none⟩ = some (.slice la l.length lc) := xv 4
      have ra4 := cell_regrown xa4
      have xa5 : v5.cell? ⟨w.heap.size, 5, none⟩ = some (.slice ma m.length mc) := xv 5
      have ra5 := cell_regrown xa5
      have xb0 : v5.cell? ⟨w2.heap.size, 0, none⟩ = some (.int .i64 ck) := XC.out 0
      have rb0 := cell_regrown xb0
      have xb1 : v5.cell? ⟨w2.heap.size, 1, none⟩ = some (.bool cb) := XC.out 1
      have rb1 := cell_regrown xb1
      have xb2 : v5.cell? ⟨w2.heap.size, 2, none⟩ = some (.int .i64 cn) := XC.out 2
      have rb2 := cell_regrown xb2
      have xb3 : v5.cell? ⟨w2.heap.size, 3, none⟩ = some (.string csr) := XC.out 3
      have rb3 := cell_regrown xb3
      have xb4 : v5.cell? ⟨w2.heap.size, 4, none⟩ = some (.slice cla cll clc) := XC.out 4
      have rb4 := cell_regrown xb4
      have xb5 : v5.cell? ⟨w2.heap.size, 5, none⟩ = some (.slice cma cml cmc) := XC.out 5
      have rb5 := cell_regrown xb5
      clear xv
      have z := F5.out
      have RSM := fun w hw => rSame_any HLC.out (H.out.later z) w hw
      rw [T.same_self] at RSM
      have C0 := fun w hw => tCheck_any H.out w hw (by omega)
      have C1 := fun w hw => rCheck_any H.out w hw (by omega)
      have C2 := fun w hw => tSize_any H.out w hw (by omega)
      have C3 := fun w hw => rSize_any H.out w hw (by omega)
      have C4 := fun w hw => tDepth_any H.out w hw (by omega)
      have C5 := fun w hw => rDepth_any H.out w hw (by omega)
      generalize (T.mk k b n s0 l m).check = cc at C0 C1
      generalize hss : (T.mk k b n s0 l m).size = ss at C2 C3
      generalize hdd2 : (T.mk k b n s0 l m).depth = dd2 at C4 C5
      have Q0 := fun dd os => Calls.regrown_of (C0 (grow (redrawn v5 dd) os) (bstep z (below_regrown v5 dd os) z.size))
      have Q1 := fun dd os => Calls.regrown_of (C1 (grow (redrawn v5 dd) os) (bstep z (below_regrown v5 dd os) z.size))
      have Q2 := fun dd os => Calls.regrown_of (C2 (grow (redrawn v5 dd) os) (bstep z (below_regrown v5 dd os) z.size))
      have Q3 := fun dd os => Calls.regrown_of (C3 (grow (redrawn v5 dd) os) (bstep z (below_regrown v5 dd os) z.size))
      have Q4 := fun dd os => Calls.regrown_of (C4 (grow (redrawn v5 dd) os) (bstep z (below_regrown v5 dd os) z.size))
      have Q5 := fun dd os => Calls.regrown_of (C5 (grow (redrawn v5 dd) os) (bstep z (below_regrown v5 dd os) z.size))
      have Q6 := fun dd os => Calls.regrown_of (RSM (grow (redrawn v5 dd) os) (below_regrown v5 dd os))
      have Q7 := fun dd os => Calls.regrown_of ((tText_any s hs (grow (redrawn v5 dd) os)).mono fun e w' ⟨p, q⟩ => ⟨p, by subst q; exact Below.refl _ _⟩)
      have Q8 := fun dd os => Calls.regrown_of ((rText_any s hs (grow (redrawn v5 dd) os)).mono fun e w' ⟨p, q⟩ => ⟨p, by subst q; exact Below.refl _ _⟩)
      have Q9 := fun dd os => Calls.regrown_of (tKey_any s hs (grow (redrawn v5 dd) os))
      have Q10 := fun dd os => Calls.regrown_of ((rKey_any s hs (grow (redrawn v5 dd) os)).mono fun e w' ⟨p, q⟩ => ⟨p, by subst q; exact Below.refl _ _⟩)
      generalize textB s = tb at Q7 Q8
      generalize keyB s = kb at Q9 Q10
      clear RSM C0 C1 C2 C3 C4 C5 z
      refine wp_region_quiet_below (by kernel_rfl) (by kernel_rfl) ?_
      repeat (go_big_quiet_step (fail))
      go_big_quiet_step (exact Q0 _ _)
      repeat (go_big_quiet_step (fail))
      go_big_quiet_step (exact Q1 _ _)
      repeat (go_big_quiet_step (fail))
      go_big_quiet_step (exact Q2 _ _)
      repeat (go_big_quiet_step (fail))
      go_big_quiet_step (exact Q3 _ _)
      repeat (go_big_quiet_step (fail))
      go_big_quiet_step (exact Q4 _ _)
      repeat (go_big_quiet_step (fail))
      go_big_quiet_step (exact Q5 _ _)
      repeat (go_big_quiet_step (fail))
      go_big_quiet_step (exact Q6 _ _)
      repeat (go_big_quiet_step (fail))
      go_big_quiet_step (exact Q7 _ _)
      repeat (go_big_quiet_step (fail))
      go_big_quiet_step (exact Q8 _ _)
      repeat (go_big_quiet_step (fail))
      go_big_quiet_step (exact Q9 _ _)
      repeat (go_big_quiet_step (fail))
      go_big_quiet_step (exact Q10 _ _)
      repeat (go_big_quiet_step (fail))
      refine wpQuiet_nil ?_
      intro _ hw'
      obtain ⟨⟨dq, osq⟩, hw''⟩ := hw'
      subst hw''
      have hbq := below_regrown v5 dq osq
      simp only []
      generalize grow (redrawn v5 dq) osq = vr at hbq ⊢
      clear ra0 ra1 ra2 ra3 ra4 ra5 rb0 rb1 rb2 rb3 rb4 rb5 Q0 Q1 Q2 Q3 Q4 Q5 Q6 Q7 Q8 Q9 Q10
      have ya5 := cells_frame hbq xa5
      have yb5 := cells_frame hbq xb5
      clear xa0 xa1 xa2 xa3 xa4 xa5 xb0 xb1 xb2 xb3 xb4 xb5
      have AR := Lib.hid (bstep A2.out hbq A2.out.size)
      have FR := Lib.hid (bstep F5.out hbq F5.out.size)
      have HLR := Lib.hid (HLC.out.later hbq)
      obtain ⟨hcml, cmy, hSC⟩ := lies_pairs HLR.out
      subst hcml
      have HSC := Lib.hid hSC
      clear hSC
      by_cases hm0 : 0 < m.length
      · have hfr := HFR.out hm0
        obtain ⟨bl, ol, k1, b1, n1, s1, la1, ll1, lc1, ma1, ml1, mc1, ea, hcl, r0, r1, r2, r3, r4, r5, r6⟩ := openM FR.out HP.out.hdr HP.out.rows hm0 (HP.out.each 0 hm0)
        have hlt0 : bl < w0.heap.size := Row.lt (HP.out.rows 0 hm0 bl ol ea) (by rw [Array.size_append]; exact Nat.lt_of_lt_of_le (by decide : 0 < 1) (Nat.le_add_right 1 _))
        obtain ⟨g, o, k2, b2, n2, s2, la2, ll2, lc2, ma2, ml2, mc2, eg, hcg, q0, q1, q2, q3, q4, q5, q6⟩ := openM (Below.refl _ _) HSC.out.hdr HSC.out.rows hm0 (HSC.out.each 0 hm0)
        obtain ⟨g', o', eg', hRg⟩ := HSC.out.hdr.some hm0
        have hge : w1.heap.size ≤ g := by
          rw [eg] at eg'
          obtain ⟨rfl, rfl⟩ : g = g' ∧ o = o' := by simpa using eg'
          exact hRg
        have z1 : vr.cell? ⟨bl, ol + 1, none⟩ = some (.int .i64 k1) := by simpa using r1
        have z2 : vr.cell? ⟨g, o + 1, none⟩ = some (.int .i64 k2) := by simpa using q1
        have hfz : ∀ j, vr.frozen? ⟨g, j, none⟩ = false := fun j => by
          have hglt : g < v5.heap.size := by
            obtain ⟨_, cmx, hsp⟩ := lies_pairs HLC.out
            exact Row.lt (hsp.rows 0 hm0 g o eg) (by rw [Array.size_append]; exact Nat.lt_of_lt_of_le (by decide : 0 < 1) (Nat.le_add_right 1 _))
          exact (hbq.frozen (p := ⟨g, j, none⟩) hglt).trans (hfr g o eg j)
        have hwz := hw.size
        have n1' : bl ≠ g := by omega
        have n2' : w.heap.size ≠ g := by omega
        have hm1 : decide ((0 : Int) < (m.length : Int)) = true := by simp; omega
        have hm2 : (0 : Int) < (m.length : Int) := by omega
        clear r0 r1 r2 r3 r4 r5 r6 q0 q1 q2 q3 q4 q5 q6 hcl hcg hfr eg'
        subst ea eg
        have e1 : (vr.setCell ⟨g, o + 1, none⟩ (.int .i64 (IntKind.i64.wrap (k2 + 1)))).cell? ⟨w.heap.size, 5, none⟩ = some (.slice (some ⟨bl, ol, none⟩) m.length mc) := by rw [World.cell?_setCell_other _ _ _ _ (by intro e; have := congrArg Addr.block e; simp only at this; omega)]; exact ya5
        have e2 : (vr.setCell ⟨g, o + 1, none⟩ (.int .i64 (IntKind.i64.wrap (k2 + 1)))).cell? ⟨bl, ol + 1, none⟩ = some (.int .i64 k1) := by rw [World.cell?_setCell_other _ _ _ _ (by intro e; have := congrArg Addr.block e; simp only at this; omega)]; exact z1
        have AS := Lib.hid (AR.out.setCell (p := ⟨g, o + 1, none⟩) (by simp only; omega) (.int .i64 (wrap64 (k2 + 1))))
        go_wp2_with fail
        refine (awake_any _).mono ?_
        rintro e w9 ⟨rfl, hb9⟩
        go_wp2_with fail
        go_ret
        exact ⟨rfl, bstep AS.out hb9 AS.out.size⟩
      · have hm1 : decide ((0 : Int) < (m.length : Int)) = false := decide_eq_false (by omega)
        go_wp2_with fail
        refine (awake_any _).mono ?_
        rintro e w9 ⟨rfl, hb9⟩
        go_wp2_with fail
        go_ret
        exact ⟨rfl, bstep AR.out hb9 AR.out.size⟩

end Go.Proofs.Ytgobgjnnhgcedaa
