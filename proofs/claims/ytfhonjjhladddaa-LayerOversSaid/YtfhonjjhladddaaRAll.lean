/-
  The reference's All.
-/
import Derived.Test.YtfhonjjhladddaaROver
import Derived.Test.YtfhonjjhladddaaSpecsB

set_option linter.unusedVariables false
set_option linter.unusedSimpArgs false
namespace Go.Proofs.Ytfhonjjhladddaa
open Go.RowKit Go.Sort

set_option maxRecDepth 100000 in
set_option maxHeartbeats 2000000 in
theorem rAll_any {w0 : World} {R : Nat → Prop} {ts : List T} {a : Option Addr} {cap : Nat} {cl : Nat → Array Value} (h : SliceV w0 R ts a cap cl) (w : World) (hw : Below w0.heap.size w0 w)
    (hz : ∀ j, j < ts.length → (layT ts j).size ≤ 1000000) (hzt : ∀ i (hi : i < ts.length), ts[i].size ≤ 1000000) :
    Calls Try.prog 21 #[.slice a ts.length cap] w (RPutIn w0 R w (ts.foldl T.over T.none5)) := by
  have H := Lib.hid h
  have HZ := Lib.hid hz
  have HZT := Lib.hid hzt
  have HS := Lib.hid (layT_succ ts)
  have HE := Lib.hid (layT_all ts)
  have ll := h.hdr.le
  have lx := h.hdr.big
  clear h hz hzt
  obtain ⟨dd, hu, hdd⟩ := Try.structV
  have DD := Lib.hid hdd
  have HU := Lib.hid hu
  clear hu hdd
  have b1 := (Below.refl w.heap.size w).alloc (Nat.le_refl _) (.cells #[.int .i64 0, .bool false, .int .i64 0, .string ⟨#[]⟩, .slice none 0 0, .slice none 0 0] 25)
  have AV := Lib.hid (b1.alloc (by simp) (.cells #[.int .i64 5, .bool false, .int .i64 0, .string ⟨#[]⟩, .slice none 0 0, .slice none 0 0] 25))
  have e1 : (w.alloc (.cells #[.int .i64 0, .bool false, .int .i64 0, .string ⟨#[]⟩, .slice none 0 0, .slice none 0 0] 25)).heap.size = w.heap.size + 1 := by simp
  have Y := box_two w (.int .i64 0) (.bool false) (.int .i64 0) (.string ⟨#[]⟩) (.slice none 0 0) (.slice none 0 0) (.int .i64 5) (.bool false) (.int .i64 0) (.string ⟨#[]⟩) (.slice none 0 0) (.slice none 0 0) 25 25
  have Y0 := Lib.hid Y.1
  have Y1 := Lib.hid Y.2
  have f0 := fun k => ((Below.refl (w.alloc (.cells #[.int .i64 0, .bool false, .int .i64 0, .string ⟨#[]⟩, .slice none 0 0, .slice none 0 0] 25)).heap.size _).alloc (Nat.le_refl _) (.cells #[.int .i64 5, .bool false, .int .i64 0, .string ⟨#[]⟩, .slice none 0 0, .slice none 0 0] 25)).frozen (p := ⟨w.heap.size, k, none⟩) (by simp)
  have F0 : Hid (∀ k, ((w.alloc (.cells #[.int .i64 0, .bool false, .int .i64 0, .string ⟨#[]⟩, .slice none 0 0, .slice none 0 0] 25)).alloc (.cells #[.int .i64 5, .bool false, .int .i64 0, .string ⟨#[]⟩, .slice none 0 0, .slice none 0 0] 25)).frozen? ⟨w.heap.size, k, none⟩ = false) := fun k => (f0 k).trans (World.frozen?_alloc_new _ _ _ _)
  have f1 := fun k => World.frozen?_alloc_new (w.alloc (.cells #[.int .i64 0, .bool false, .int .i64 0, .string ⟨#[]⟩, .slice none 0 0, .slice none 0 0] 25)) #[.int .i64 5, .bool false, .int .i64 0, .string ⟨#[]⟩, .slice none 0 0, .slice none 0 0] 25 k
  rw [e1] at f1
  have F1 : Hid (∀ k, ((w.alloc (.cells #[.int .i64 0, .bool false, .int .i64 0, .string ⟨#[]⟩, .slice none 0 0, .slice none 0 0] 25)).alloc (.cells #[.int .i64 5, .bool false, .int .i64 0, .string ⟨#[]⟩, .slice none 0 0, .slice none 0 0] 25)).frozen? ⟨w.heap.size + 1, k, none⟩ = false) := f1
  have HSV : Hid (((w.alloc (.cells #[.int .i64 0, .bool false, .int .i64 0, .string ⟨#[]⟩, .slice none 0 0, .slice none 0 0] 25)).alloc (.cells #[.int .i64 5, .bool false, .int .i64 0, .string ⟨#[]⟩, .slice none 0 0, .slice none 0 0] 25)).heap.size = w.heap.size + 2) := by show _ = _; simp
  clear b1 e1 Y f0 f1
  go_enter Try.func21, Try.ntmps21
  go_wp2_with fail
  generalize ((w.alloc (.cells #[.int .i64 0, .bool false, .int .i64 0, .string ⟨#[]⟩, .slice none 0 0, .slice none 0 0] 25)).alloc (.cells #[.int .i64 5, .bool false, .int .i64 0, .string ⟨#[]⟩, .slice none 0 0, .slice none 0 0] 25)) = v at *
  have hvs := HSV.out
  go_loopw [4] (fun vi wr => ∃ (j : Nat) (m0 : Int) (m1 : Bool) (m2 : Int) (m3 : ByteArray) (m4 : Option Addr) (m4l m4c : Nat) (m5 : Option Addr) (m5l m5c : Nat), j ≤ ts.length ∧ vi = .int .i64 j ∧ BoxA wr (w.heap.size + 1) (.int .i64 m0) (.bool m1) (.int .i64 m2) (.string m3) (.slice m4 m4l m4c) (.slice m5 m5l m5c) ∧ Hid (Lies wr (fun b => (R b ∧ b < w0.heap.size) ∨ w.heap.size + 1 < b) (layT ts (j)) #[.int .i64 m0, .bool m1, .int .i64 m2, .string m3, .slice m4 m4l m4c, .slice m5 m5l m5c]) ∧ Hid (∀ k, wr.frozen? ⟨w.heap.size + 1, k, none⟩ = false) ∧ Hid (∀ b, b < v.heap.size → b ≠ w.heap.size + 1 → wr.heap[b]? = v.heap[b]?) ∧ v.heap.size ≤ wr.heap.size ∧ Hid (Below w.heap.size w wr)) (fun vi _ => ts.length - (intOf vi).toNat)
  case atStart => exact ⟨0, 5, false, 0, ⟨#[]⟩, none, 0, 0, none, 0, 0, by omega, rfl, Y1.out, none5_lies _ _, F1, fun _ _ _ => rfl, Nat.le_refl _, AV⟩
  case round =>
    obtain ⟨j, m0, m1, m2, m3, m4, m4l, m4c, m5, m5l, m5c, hj, rfl, hbox, HLI, HFZ, KP, hsz, HBW⟩ := hrel
    have hbr := bstep hw HBW.out hw.size
    have HBOX := Lib.hid hbox
    have hbl := hbox.lt
    have hw0 := hw.size
    clear hbox
    by_cases hjl : j < ts.length
    · obtain ⟨bl, ol, c0, c1, c2, c3, c4, c4l, c4c, c5, c5l, c5c, rfl, hcl, r0, r1, r2, r3, r4, r5⟩ := openL hbr H.out.hdr H.out.rows hjl (H.out.each j hjl)
      have hE := H.out.each j hjl
      rw [hcl] at hE
      have HEW := Lib.hid (hE.bound.later hbr)
      have g1 := HZ.out j hjl
      have g2 := HZT.out j hjl
      have Q1 := Lib.hid (HS.out j hjl)
      clear hcl hE
      go_upto_region 5 with fail
      refine wp_region_specs2 wr 6 (fun i => 12 + i) (fun i x wx => match i with | 0 => x = .agg #[.int .i64 m0, .bool m1, .int .i64 m2, .string m3, .slice m4 m4l m4c, .slice m5 m5l m5c] | 1 => x = .slice (some ⟨bl, ol, none⟩) ts.length cap | 2 => x = .int .i64 j | 3 => x = .pointer (some ⟨bl, ol + j * 6, none⟩) | 4 => x = .agg #[.int .i64 c0, .bool c1, .int .i64 c2, .string c3, .slice c4 c4l c4c, .slice c5 c5l c5c] | 5 => ∃ ds : Array Value, x = .agg ds ∧ Lies wx (fun b => (R b ∧ b < w0.heap.size) ∨ w.heap.size + 1 < b) (layT ts (j + 1)) ds | _ => True) (fun _ wx => ∃ (m0 : Int) (m1 : Bool) (m2 : Int) (m3 : ByteArray) (m4 : Option Addr) (m4l m4c : Nat) (m5 : Option Addr) (m5l m5c : Nat), BoxA wx (w.heap.size + 1) (.int .i64 m0) (.bool m1) (.int .i64 m2) (.string m3) (.slice m4 m4l m4c) (.slice m5 m5l m5c) ∧ Hid (Lies wx (fun b => (R b ∧ b < w0.heap.size) ∨ w.heap.size + 1 < b) (layT ts (j + 1)) #[.int .i64 m0, .bool m1, .int .i64 m2, .string m3, .slice m4 m4l m4c, .slice m5 m5l m5c]) ∧ Hid (∀ k, wx.frozen? ⟨w.heap.size + 1, k, none⟩ = false) ∧ Hid (∀ b, b < v.heap.size → b ≠ w.heap.size + 1 → wx.heap[b]? = v.heap[b]?) ∧ v.heap.size ≤ wx.heap.size ∧ Hid (Below w.heap.size w wx)) (by kernel_rfl) (by kernel_rfl) ?s1 (Below.refl _ _) ?s2 ?s3 ?s4 ?s5
      case s1 => intro i hi; exact Nat.lt_of_lt_of_le (show 12 + i < 19 by omega) (Nat.le_refl 19)
      case s2 =>
        intro i x w1 w2 hb hU
        match i, hU with
        | 5, ⟨ds, e, hl⟩ => exact ⟨ds, e, hl.later hb⟩
        | 0, h | 1, h | 2, h | 3, h | 4, h => exact h
        | (n + 6), _ => trivial
      case s3 =>
        intro i o ac wb K' ho hi hA hB hdep hK
        have sv0 : ac.tmps[0]?.getD undef = .slice (some ⟨bl, ol, none⟩) ts.length cap := hA.sl (t := 0) (by decide)
        have sv3 : ac.tmps[3]?.getD undef = .pointer (some ⟨w.heap.size + 1, 0, none⟩) := hA.sl (t := 3) (by decide)
        have sv4 : ac.tmps[4]?.getD undef = .int .i64 j := hA.sl (t := 4) (by decide)
        obtain ⟨xm0, xm1, xm2, xm3, xm4, xm5⟩ := HBOX.out.later hB
        have r0 := cells_frame hB r0
        have r1 := cells_frame hB r1
        have r2 := cells_frame hB r2
        have r3 := cells_frame hB r3
        have r4 := cells_frame hB r4
        have r5 := cells_frame hB r5
        rcases (by omega : i = 0 ∨ i = 1 ∨ i = 2 ∨ i = 3 ∨ i = 4 ∨ i = 5) with rfl | rfl | rfl | rfl | rfl | rfl
        · simp at ho
          subst ho
          clear hdep hA
          go_simp
          exact hK _ wb (Below.refl _ _) rfl
        · simp at ho
          subst ho
          clear hdep hA
          go_simp
          exact hK _ wb (Below.refl _ _) rfl
        · simp at ho
          subst ho
          clear hdep hA
          go_simp
          exact hK _ wb (Below.refl _ _) rfl
        · simp at ho
          subst ho
          have y1 : ac.tmps[13]?.getD undef = .slice (some ⟨bl, ol, none⟩) ts.length cap := hdep { on := 1, ground := .data } (by simp) rfl
          have y2 : ac.tmps[14]?.getD undef = .int .i64 j := hdep { on := 2, ground := .data } (by simp) rfl
          clear hdep hA
          go_simp
          exact hK _ wb (Below.refl _ _) rfl
        · simp at ho
          subst ho
          have y3 : ac.tmps[15]?.getD undef = .pointer (some ⟨bl, ol + j * 6, none⟩) := hdep { on := 3, ground := .data } (by simp) rfl
          clear hdep hA
          go_simp
          exact hK _ wb (Below.refl _ _) rfl
        · simp at ho
          subst ho
          have y0 : ac.tmps[12]?.getD undef = .agg #[.int .i64 m0, .bool m1, .int .i64 m2, .string m3, .slice m4 m4l m4c, .slice m5 m5l m5c] := hdep { on := 0, ground := .data } (by simp) rfl
          have y4 : ac.tmps[16]?.getD undef = .agg #[.int .i64 c0, .bool c1, .int .i64 c2, .string c3, .slice c4 c4l c4c, .slice c5 c5l c5c] := hdep { on := 4, ground := .data } (by simp) rfl
          clear hdep hA
          go_simp
          refine (rOver_any HEW.out HLI.out wb hB g1 g2).mono ?_
          rintro e w5 ⟨ds, rfl, hL, hb5⟩
          have hbs := hB.size
          refine hK _ w5 hb5 ⟨ds, rfl, ?_⟩
          rw [Q1.out]
          refine hL.weaken fun b hb => ?_
          rcases hb with ⟨h | h, h2⟩ | h
          · exact h
          · exact .inl h
          · exact .inr (by omega)
      case s4 =>
        intro o ac wb K' ho hA hB hU hK
        have sv0 : ac.tmps[0]?.getD undef = .slice (some ⟨bl, ol, none⟩) ts.length cap := hA.sl (t := 0) (by decide)
        have sv3 : ac.tmps[3]?.getD undef = .pointer (some ⟨w.heap.size + 1, 0, none⟩) := hA.sl (t := 3) (by decide)
        have sv4 : ac.tmps[4]?.getD undef = .int .i64 j := hA.sl (t := 4) (by decide)
        obtain ⟨xm0, xm1, xm2, xm3, xm4, xm5⟩ := HBOX.out.later hB
        have r0 := cells_frame hB r0
        have r1 := cells_frame hB r1
        have r2 := cells_frame hB r2
        have r3 := cells_frame hB r3
        have r4 := cells_frame hB r4
        have r5 := cells_frame hB r5
        simp at ho
        subst ho
        obtain ⟨ds, y5, hL⟩ := hU 5 (by omega)
        obtain ⟨q0, q1, q2, q3, q4, q4l, q4c, q5, q5l, q5c, rfl⟩ := hL.six
        have y5 : ac.tmps[17]?.getD undef = .agg #[.int .i64 q0, .bool q1, .int .i64 q2, .string q3, .slice q4 q4l q4c, .slice q5 q5l q5c] := y5
        clear hU hA
        have yf : ∀ k, wb.frozen? ⟨w.heap.size + 1, k, none⟩ = false := fun k => (hB.frozen (p := ⟨w.heap.size + 1, k, none⟩) hbl).trans (HFZ.out k)
        have YF := Lib.hid yf
        have ybx := HBOX.out.later hB
        have HLQ := Lib.hid hL
        clear r0 r1 r2 r3 r4 r5 hL
        go_simp
        refine hK _ ⟨q0, q1, q2, q3, q4, q4l, q4c, q5, q5l, q5c, ybx.row _ _ _ _ _ _, (HLQ.out.bound.keepB (fun x hx hlt => setRow_heap _ [.int .i64 q0, .bool q1, .int .i64 q2, .string q3, .slice q4 q4l q4c, .slice q5 q5l q5c] _ _ _ (by
          rcases hx.1 with h | h
          · have := h.2; omega
          · omega))).weaken (fun x hx => hx.1.1), (fun k => (setRow_frozen _ [.int .i64 q0, .bool q1, .int .i64 q2, .string q3, .slice q4 q4l q4c, .slice q5 q5l q5c] _ _ _).trans (YF.out k)), (fun b hb hn => (setRow_heap _ [.int .i64 q0, .bool q1, .int .i64 q2, .string q3, .slice q4 q4l q4c, .slice q5 q5l q5c] _ _ _ hn).trans ((hB.block b (by omega)).trans (KP.out b hb hn))), ?_, setRow_below _ (Nat.le_succ _) [.int .i64 q0, .bool q1, .int .i64 q2, .string q3, .slice q4 q4l q4c, .slice q5 q5l q5c] _ _ (bstep HBW.out hB HBW.out.size)⟩
        have h1 := setRow_size (w.heap.size + 1) [.int .i64 q0, .bool q1, .int .i64 q2, .string q3, .slice q4 q4l q4c, .slice q5 q5l q5c] wb 0
        have h2 := hB.size
        exact Nat.le_trans (by omega : v.heap.size ≤ wb.heap.size) (Nat.le_of_eq h1.symm)
      case s5 =>
        intro ac wn hA hF
        have hs : slots 6 (fun i => 12 + i) = [12, 13, 14, 15, 16, 17] := by rfl
        rw [hs] at hA
        have hac := hA.act (fun t ht => by
          have h8 : t = 12 ∨ t = 13 ∨ t = 14 ∨ t = 15 ∨ t = 16 ∨ t = 17 := by simpa using ht
          rcases h8 with rfl | rfl | rfl | rfl | rfl | rfl <;> exact Nat.lt_of_lt_of_le (by decide : _ < 19) (Nat.le_refl 19))
        rw [List.foldl_cons, List.foldl_cons, List.foldl_cons, List.foldl_cons, List.foldl_cons, List.foldl_cons, List.foldl_nil] at hac
        generalize sl ac 12 = x12 at hac
        generalize sl ac 13 = x13 at hac
        generalize sl ac 14 = x14 at hac
        generalize sl ac 15 = x15 at hac
        generalize sl ac 16 = x16 at hac
        generalize sl ac 17 = x17 at hac
        clear hA hs
        subst hac
        simp only [Act.put, List.setIfInBounds_toArray, List.set_cons_succ, List.set_cons_zero]
        obtain ⟨n0, n1, n2, n3, n4, n4l, n4c, n5, n5l, n5c, NB, NL, NF, NK, NS, NW⟩ := hF
        have NB' := Lib.hid NB
        clear NB HLI HFZ KP HBW HBOX hbr r0 r1 r2 r3 r4 r5 hbl
        go_wp2_with fail
        go_roundw
        case rel => exact ⟨j + 1, n0, n1, n2, n3, n4, n4l, n4c, n5, n5l, n5c, by omega, by go_num, NB'.out, NL, NF, NK, NS, NW⟩
        case measure => simp [intOf]; omega
    · obtain rfl : j = ts.length := by omega
      have hL := HLI.out
      rw [HE.out] at hL
      have HL := Lib.hid hL
      obtain ⟨xm0, xm1, xm2, xm3, xm4, xm5⟩ := HBOX.out
      have YB : Hid (BoxA wr w.heap.size (.int .i64 0) (.bool false) (.int .i64 0) (.string ⟨#[]⟩) (.slice none 0 0) (.slice none 0 0)) := Y0.out.block (KP.out w.heap.size (by omega) (by omega))
      obtain ⟨yb0, yb1, yb2, yb3, yb4, yb5⟩ := YB.out
      have yf : ∀ k, wr.frozen? ⟨w.heap.size, k, none⟩ = false := fun k => (World.frozen?_of_block (a := ⟨w.heap.size, k, none⟩) (KP.out w.heap.size (by omega) (by omega))).trans (F0.out k)
      clear hL HLI
      go_wp2_with fail
      refine ret_cells wr w.heap.size [.int .i64 m0, .bool m1, .int .i64 m2, .string m3, .slice m4 m4l m4c, .slice m5 m5l m5c] rfl Try.results21 rfl rfl DD.out HU.out Try.sizeV (fun i hi => YB.out.at i hi) ?_
      exact ⟨_, rfl, (HL.out.keepB (fun x hx _ => setRow_heap _ _ _ _ _ (by
        rcases hx with h | h
        · have := h.2; omega
        · omega))).weaken (fun x hx => hx.1.imp id (fun h => by omega)), setRow_below _ (Nat.le_refl _) _ _ _ HBW.out⟩

end Go.Proofs.Ytfhonjjhladddaa
