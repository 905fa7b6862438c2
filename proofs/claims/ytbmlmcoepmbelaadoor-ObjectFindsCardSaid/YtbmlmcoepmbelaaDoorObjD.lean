/-
  What a document tells of itself: package object's named.
-/
import Derived.Test.YtbmlmcoepmbelaaDoorMakesM
import Derived.Test.YtbmlmcoepmbelaaDoorSpecsB
set_option linter.unusedVariables false
set_option linter.unusedSimpArgs false
namespace Go.Proofs.YtbmlmcoepmbelaaDoor
open Go.RowKit Go.Sort

/-- A variable that holds an ID of nothing. -/
structure IdZ (w : World) (g : Nat) : Prop where
  c0 : w.cell? ⟨g, 0, none⟩ = some (.string ⟨#[]⟩)
  c1 : w.cell? ⟨g, 1, none⟩ = some (.string ⟨#[]⟩)
  c2 : w.cell? ⟨g, 2, none⟩ = some (.string ⟨#[]⟩)
  thaw : Thaw w g
theorem IdZ.later {w w' : World} {g B : Nat} (h : IdZ w g) (hb : Below B w w') (hg : g < B) : IdZ w' g :=
  ⟨(hb.cell (p := ⟨g, 0, none⟩) hg).trans h.c0, (hb.cell (p := ⟨g, 1, none⟩) hg).trans h.c1, (hb.cell (p := ⟨g, 2, none⟩) hg).trans h.c2, h.thaw.later hb hg⟩
theorem IdZ.other {w : World} {g g2 : Nat} (h : IdZ w g) (hg : g ≠ g2) (l : List Value) (o : Nat) : IdZ (setRow w g2 o l) g := by
  have e : ∀ j, (setRow w g2 o l).cell? ⟨g, j, none⟩ = w.cell? ⟨g, j, none⟩ := fun j => World.cell?_of_block (setRow_heap _ _ _ _ _ hg)
  exact ⟨(e 0).trans h.c0, (e 1).trans h.c1, (e 2).trans h.c2, h.thaw.store l o⟩
theorem IdZ.cells {w : World} {g : Nat} (h : IdZ w g) : ∀ i, i < 3 → ∃ u, w.cell? ⟨g, i, none⟩ = some u := fun i hi => by
  rcases (by omega : i = 0 ∨ i = 1 ∨ i = 2) with rfl | rfl | rfl
  · exact ⟨_, h.c0⟩
  · exact ⟨_, h.c1⟩
  · exact ⟨_, h.c2⟩
theorem Tryd.structID : ∃ d, Tryd.prog.underlying 29 = some d ∧ (match d with | .struct _ | .array _ _ => true | _ => false) = true := ⟨_, Tryd.underlying29, rfl⟩
theorem Tryd.sizeID : (Tryd.prog.info? 29).map (·.size) = some 3 := by kernel_rfl
theorem lies_txt {w : World} {R : Nat → Prop} {t : T} {k : Int} {b : Bool} {n : Int} {s : ByteArray} {la ma : Option Addr} {ll lc ml mc : Nat} (h : Lies w R t #[.int .i64 k, .bool b, .int .i64 n, .string s, .slice la ll lc, .slice ma ml mc]) : txtC k s = txtO t := by
  obtain ⟨h1, h2, -⟩ := lies_flat h
  rw [txtO, h1, h2]

/-- Behind the test: what the space's variable holds. -/
def NmIn (w w3 w7 w9 v10 : World) (t : T) (ds ns : Array Value) (wx : World) : Prop := ∃ (q0 : Int) (q1 : Bool) (q2 : Int) (q3 : ByteArray) (q4 : Option Addr) (q4l q4c : Nat) (q5 : Option Addr) (q5l q5c : Nat), Hid (txtC q0 q3 = spaceO t) ∧ Hid (Box6 wx w9.heap.size #[.int .i64 q0, .bool q1, .int .i64 q2, .string q3, .slice q4 q4l q4c, .slice q5 q5l q5c]) ∧ Hid (Box6 wx w3.heap.size ds) ∧ Hid (Box6 wx w7.heap.size ns) ∧ Hid (IdZ wx (w.heap.size + 1)) ∧ Hid (Below w.heap.size w wx) ∧ Hid (v10.heap.size ≤ wx.heap.size)

set_option maxRecDepth 100000 in
set_option maxHeartbeats 4000000 in
theorem onamed_any {w0 : World} {R : Nat → Prop} {t : T} {cs : Array Value} (h : Lies w0 R t cs) (w : World) (hw : Below w0.heap.size w0 w) :
    Calls Tryd.prog 25 #[.agg cs] w fun e w' => e = .returned (.agg #[.string (kindO t), .string (spaceO t), .string (nameO t)]) ∧ Below w.heap.size w w' := by
  obtain ⟨c0, c1, c2, c3, c4, c4l, c4c, c5, c5l, c5c, rfl⟩ := h.six
  obtain ⟨dd, hu, hdd⟩ := Tryd.structID
  have DD := Lib.hid hdd
  have HU := Lib.hid hu
  have H := Lib.hid h
  have HW := Lib.hid hw
  clear hdd hu h hw
  have e1 : (w.alloc (.cells #[.int .i64 c0, .bool c1, .int .i64 c2, .string c3, .slice c4 c4l c4c, .slice c5 c5l c5c] 25)).heap.size = w.heap.size + 1 := by simp
  have hb2 : Below w.heap.size w ((w.alloc (.cells #[.int .i64 c0, .bool c1, .int .i64 c2, .string c3, .slice c4 c4l c4c, .slice c5 c5l c5c] 25)).alloc (.cells #[.string ⟨#[]⟩, .string ⟨#[]⟩, .string ⟨#[]⟩] 29)) := ((Below.refl _ _).alloc (Nat.le_refl _) _).alloc (by simp) _
  have b0 : Box6 ((w.alloc (.cells #[.int .i64 c0, .bool c1, .int .i64 c2, .string c3, .slice c4 c4l c4c, .slice c5 c5l c5c] 25)).alloc (.cells #[.string ⟨#[]⟩, .string ⟨#[]⟩, .string ⟨#[]⟩] 29)) w.heap.size #[.int .i64 c0, .bool c1, .int .i64 c2, .string c3, .slice c4 c4l c4c, .slice c5 c5l c5c] := (Box6.new w #[.int .i64 c0, .bool c1, .int .i64 c2, .string c3, .slice c4 c4l c4c, .slice c5 c5l c5c] 25).later ((Below.refl (w.heap.size + 1) _).alloc (by simp) _) (by omega)
  have i0 : IdZ ((w.alloc (.cells #[.int .i64 c0, .bool c1, .int .i64 c2, .string c3, .slice c4 c4l c4c, .slice c5 c5l c5c] 25)).alloc (.cells #[.string ⟨#[]⟩, .string ⟨#[]⟩, .string ⟨#[]⟩] 29)) (w.heap.size + 1) := by
    rw [← e1]
    exact ⟨by rw [World.cell?_alloc_new]; rfl, by rw [World.cell?_alloc_new]; rfl, by rw [World.cell?_alloc_new]; rfl, Thaw.new _ _ _⟩
  have es : ((w.alloc (.cells #[.int .i64 c0, .bool c1, .int .i64 c2, .string c3, .slice c4 c4l c4c, .slice c5 c5l c5c] 25)).alloc (.cells #[.string ⟨#[]⟩, .string ⟨#[]⟩, .string ⟨#[]⟩] 29)).heap.size = w.heap.size + 2 := by simp
  have HB2 := Lib.hid hb2
  have B0 := Lib.hid b0
  have I0 := Lib.hid i0
  have ES := Lib.hid es
  obtain ⟨x0, x1, x2, x3, x4, x5⟩ := b0.six
  clear e1 hb2 b0 i0 es
  go_enter Tryd.func25, Tryd.ntmps25
  go_upto_region 1 with fail
  generalize ((w.alloc (.cells #[.int .i64 c0, .bool c1, .int .i64 c2, .string c3, .slice c4 c4l c4c, .slice c5 c5l c5c] 25)).alloc (.cells #[.string ⟨#[]⟩, .string ⟨#[]⟩, .string ⟨#[]⟩] 29)) = v at *
  have hvs := Nat.le_of_eq ES.out.symm
  go_upto_region 2 with (go_at_call 30; refine (tGet_any H.out kKind v (bstep HW.out HB2.out HW.out.size)).mono ?_; rintro e w3 ⟨ds, rfl, hl, hb3⟩; obtain ⟨d0, d1, d2, d3, d4, d4l, d4c, d5, d5l, d5c, rfl⟩ := hl.six; have HL := Lib.hid hl; have HB3 := Lib.hid hb3; clear hl hb3)
  have hb4 := HB3.out.alloc HB3.out.size (.cells #[.int .i64 d0, .bool d1, .int .i64 d2, .string d3, .slice d4 d4l d4c, .slice d5 d5l d5c] 25)
  have b4 := Box6.new w3 #[.int .i64 d0, .bool d1, .int .i64 d2, .string d3, .slice d4 d4l d4c, .slice d5 d5l d5c] 25
  have hs4 : w3.heap.size < (w3.alloc (.cells #[.int .i64 d0, .bool d1, .int .i64 d2, .string d3, .slice d4 d4l d4c, .slice d5 d5l d5c] 25)).heap.size := by simp
  have KD := Lib.hid (lies_txt HL.out)
  clear x0 x1 x2 x3 x4 x5 HL
  generalize w3.alloc (.cells #[.int .i64 d0, .bool d1, .int .i64 d2, .string d3, .slice d4 d4l d4c, .slice d5 d5l d5c] 25) = v4 at *
  have BD := Lib.hid b4
  have HS4 := Lib.hid hs4
  obtain ⟨x0, x1, x2, x3, x4, x5⟩ := (B0.out.later hb4 (by omega)).six
  have I4 := Lib.hid (I0.out.later hb4 (by omega))
  have HB4 := Lib.hid (bstep HB2.out hb4 HB2.out.size)
  have hz4 := hb4.size
  clear hb4 b4 I0 hs4
  go_upto_region 3 with (go_at_call 31; refine (ometadata_any H.out v4 (bstep HW.out HB4.out HW.out.size)).mono ?_; rintro e w5 ⟨ds, rfl, hl, hb5⟩; obtain ⟨m0, m1, m2, m3, m4, m4l, m4c, m5, m5l, m5c, rfl⟩ := hl.six; have HL := Lib.hid hl; have HB5 := Lib.hid hb5; clear hl hb5)
  have hb6 := HB5.out.alloc HB5.out.size (.cells #[.int .i64 m0, .bool m1, .int .i64 m2, .string m3, .slice m4 m4l m4c, .slice m5 m5l m5c] 25)
  have b6 := Box6.new w5 #[.int .i64 m0, .bool m1, .int .i64 m2, .string m3, .slice m4 m4l m4c, .slice m5 m5l m5c] 25
  have hl6 := HL.out.later ((Below.refl w5.heap.size w5).alloc (Nat.le_refl _) (.cells #[.int .i64 m0, .bool m1, .int .i64 m2, .string m3, .slice m4 m4l m4c, .slice m5 m5l m5c] 25))
  have hs6 : w5.heap.size < (w5.alloc (.cells #[.int .i64 m0, .bool m1, .int .i64 m2, .string m3, .slice m4 m4l m4c, .slice m5 m5l m5c] 25)).heap.size := by simp
  clear x0 x1 x2 x3 x4 x5 HL B0
  generalize w5.alloc (.cells #[.int .i64 m0, .bool m1, .int .i64 m2, .string m3, .slice m4 m4l m4c, .slice m5 m5l m5c] 25) = v6 at *
  have HM := Lib.hid hl6
  have BM := Lib.hid b6
  have HS6 := Lib.hid hs6
  obtain ⟨x0, x1, x2, x3, x4, x5⟩ := b6.six
  have I6 := Lib.hid (I4.out.later hb6 (by omega))
  have BD6 := Lib.hid (BD.out.later hb6 HS4.out)
  have HB6 := Lib.hid (bstep HB4.out hb6 HB4.out.size)
  have hz6 := hb6.size
  clear hb6 b6 I4 BD hl6 hs6
  go_upto_region 4 with (go_at_call 30; refine (tGet_any HM.out kName v6 (Below.refl _ _)).mono ?_; rintro e w7 ⟨ds, rfl, hl, hb7⟩; obtain ⟨n0, n1, n2, n3, n4, n4l, n4c, n5, n5l, n5c, rfl⟩ := hl.six; have HL := Lib.hid hl; have HB7 := Lib.hid hb7; clear hl hb7)
  have hb8 := HB7.out.alloc HB7.out.size (.cells #[.int .i64 n0, .bool n1, .int .i64 n2, .string n3, .slice n4 n4l n4c, .slice n5 n5l n5c] 25)
  have b8 := Box6.new w7 #[.int .i64 n0, .bool n1, .int .i64 n2, .string n3, .slice n4 n4l n4c, .slice n5 n5l n5c] 25
  have hs8 : w7.heap.size < (w7.alloc (.cells #[.int .i64 n0, .bool n1, .int .i64 n2, .string n3, .slice n4 n4l n4c, .slice n5 n5l n5c] 25)).heap.size := by simp
  have KN := Lib.hid (lies_txt HL.out)
  clear x0 x1 x2 x3 x4 x5 HL
  generalize w7.alloc (.cells #[.int .i64 n0, .bool n1, .int .i64 n2, .string n3, .slice n4 n4l n4c, .slice n5 n5l n5c] 25) = v8 at *
  have BN := Lib.hid b8
  have HS8 := Lib.hid hs8
  obtain ⟨x0, x1, x2, x3, x4, x5⟩ := (BM.out.later hb8 HS6.out).six
  have I8 := Lib.hid (I6.out.later hb8 (by omega))
  have BD8 := Lib.hid (BD6.out.later hb8 (by have := HS4.out; omega))
  have HB8 := Lib.hid (bstep HB6.out hb8 HB6.out.size)
  have HV68 := Lib.hid hb8
  have hz8 := hb8.size
  clear hb8 b8 I6 BD6 hs8 BM
  go_upto_region 5 with (go_at_call 30; refine (tGet_any HM.out kSpace v8 HV68.out).mono ?_; rintro e w9 ⟨ds, rfl, hl, hb9⟩; obtain ⟨p0, p1, p2, p3, p4, p4l, p4c, p5, p5l, p5c, rfl⟩ := hl.six; have HL := Lib.hid hl; have HB9 := Lib.hid hb9; clear hl hb9)
  have hb10 := HB9.out.alloc HB9.out.size (.cells #[.int .i64 p0, .bool p1, .int .i64 p2, .string p3, .slice p4 p4l p4c, .slice p5 p5l p5c] 25)
  have b10 := Box6.new w9 #[.int .i64 p0, .bool p1, .int .i64 p2, .string p3, .slice p4 p4l p4c, .slice p5 p5l p5c] 25
  have t10 := Thaw.new w9 #[.int .i64 p0, .bool p1, .int .i64 p2, .string p3, .slice p4 p4l p4c, .slice p5 p5l p5c] 25
  have hs10 : w9.heap.size < (w9.alloc (.cells #[.int .i64 p0, .bool p1, .int .i64 p2, .string p3, .slice p4 p4l p4c, .slice p5 p5l p5c] 25)).heap.size := by simp
  have KP := Lib.hid (lies_txt HL.out)
  clear x0 x1 x2 x3 x4 x5 HL
  generalize w9.alloc (.cells #[.int .i64 p0, .bool p1, .int .i64 p2, .string p3, .slice p4 p4l p4c, .slice p5 p5l p5c] 25) = v10 at *
  have BP := Lib.hid b10
  have TP := Lib.hid t10
  have I10 := Lib.hid (I8.out.later hb10 (by omega))
  have BD10 := Lib.hid (BD8.out.later hb10 (by have := HS4.out; omega))
  have BN10 := Lib.hid (BN.out.later hb10 HS8.out)
  have HB10 := Lib.hid (bstep HB8.out hb10 HB8.out.size)
  have hz10 := hb10.size
  have hz9 := HB9.out.size
  have hz7 := HB7.out.size
  have hz5 := HB5.out.size
  have hz3 := HB3.out.size
  have hs4 := HS4.out
  have hs8 := HS8.out
  clear hb10 b10 t10 I8 BD8 BN HV68
  have SPD : Hid (spaceO t = spaceD ((metaO t).get kSpace)) := rfl
  generalize (metaO t).get kSpace = go at *
  go_upto_if 28 with fail
  go_cut [9, 22, 24, 26, 27, 28, 29] (fun p9 p22 p24 p26 p27 p28 p29 wx => NmIn w w3 w7 w9 v10 t #[.int .i64 d0, .bool d1, .int .i64 d2, .string d3, .slice d4 d4l d4c, .slice d5 d5l d5c] #[.int .i64 n0, .bool n1, .int .i64 n2, .string n3, .slice n4 n4l n4c, .slice n5 n5l n5c] wx)
  case first =>
    cases go with
    | none =>
      go_wp2_with (go_at_call 48; refine (tStr_any kDefault _).mono ?_; rintro e w11 ⟨rfl, hb11⟩; have HB11 := Lib.hid hb11; clear hb11; obtain ⟨p0', p1', p2', p3', p4', p5'⟩ := (BP.out.later HB11.out hs10).six; obtain ⟨f0, f1, f2, f3, f4, f5⟩ := (TP.out.later HB11.out hs10).six)
      have hb12 := bstep HB10.out HB11.out HB10.out.size
      have hz11 := HB11.out.size
      have FA : NmIn w w3 w7 w9 v10 t #[.int .i64 d0, .bool d1, .int .i64 d2, .string d3, .slice d4 d4l d4c, .slice d5 d5l d5c] #[.int .i64 n0, .bool n1, .int .i64 n2, .string n3, .slice n4 n4l n4c, .slice n5 n5l n5c] (setRow w11 w9.heap.size 0 [.int .i64 3, .bool false, .int .i64 0, .string kDefault, .slice none 0 0, .slice none 0 0]) :=
        ⟨3, false, 0, kDefault, none, 0, 0, none, 0, 0, SPD.out.symm, (BP.out.later HB11.out hs10).store rfl _ _ _ _ _ _, (BD10.out.later HB11.out (by omega)).other (by omega) _ _, (BN10.out.later HB11.out (by omega)).other (by omega) _ _, (I10.out.later HB11.out (by omega)).other (by omega) _ _, setRow_below _ (by omega) _ _ _ hb12, by show _ ≤ _; rw [setRow_size]; exact hz11⟩
      have FH := Lib.hid FA
      clear FA hb12
      go_meet
      case rel => exact FH.out
    | some u =>
      go_wp2_with fail
      go_meet
      case rel => exact ⟨p0, p1, p2, p3, p4, p4l, p4c, p5, p5l, p5c, KP.out.trans SPD.out.symm, BP, BD10, BN10, I10, HB10, Nat.le_refl _⟩
  case rest =>
    obtain ⟨q0, q1, q2, q3, q4, q4l, q4c, q5, q5l, q5c, KQ, BQ, BD, BN, I0, HBU, HZU⟩ := hcut
    obtain ⟨u, rfl⟩ : ∃ u : World, u = wc := ⟨_, rfl⟩
    have KKD : Hid (txtC d0 d3 = kindO t) := KD.out
    have KKN : Hid (txtC n0 n3 = nameO t) := KN.out
    obtain ⟨kk, ekk⟩ : ∃ z, z = kindO t := ⟨_, rfl⟩
    rw [← ekk] at KKD
    have Ekk := Lib.hid ekk
    clear ekk
    obtain ⟨nn, enn⟩ : ∃ z, z = nameO t := ⟨_, rfl⟩
    rw [← enn] at KKN
    have Enn := Lib.hid enn
    clear enn
    obtain ⟨ss, ess⟩ : ∃ z, z = spaceO t := ⟨_, rfl⟩
    rw [← ess] at KQ
    have Ess := Lib.hid ess
    clear ess
    have hzu := HZU.out
    clear KD KN KP BP TP BD10 BN10 I10 SPD
    obtain ⟨x0, x1, x2, x3, x4, x5⟩ := BD.out.six
    obtain ⟨y0, y1, y2, y3, y4, y5⟩ := BQ.out.six
    obtain ⟨z0, z1, z2, z3, z4, z5⟩ := BN.out.six
    go_upto_region 7 with fail
    refine wp_region_specs2 u 7 (fun i => 30 + i) (fun i x wx => match i with | 0 => x = .agg #[.int .i64 d0, .bool d1, .int .i64 d2, .string d3, .slice d4 d4l d4c, .slice d5 d5l d5c] | 1 => x = .string kk | 2 => x = .agg #[.int .i64 q0, .bool q1, .int .i64 q2, .string q3, .slice q4 q4l q4c, .slice q5 q5l q5c] | 3 => x = .string ss | 4 => x = .agg #[.int .i64 n0, .bool n1, .int .i64 n2, .string n3, .slice n4 n4l n4c, .slice n5 n5l n5c] | 5 => x = .string nn | 6 => x = .agg #[.string kk, .string ss, .string nn] | _ => True) (fun _ wx => ∃ wb, Below u.heap.size u wb ∧ wx = setRow wb (w.heap.size + 1) 0 [.string kk, .string ss, .string nn]) (by kernel_rfl) (by kernel_rfl) ?s1 (Below.refl _ _) ?s2 ?s3 ?s4 ?s5
    case s1 => intro i hi; exact Nat.lt_of_lt_of_le (show 30 + i < 37 by omega) (Nat.le_refl 37)
    case s2 =>
      intro i x w1 w2 hb hU
      match i, hU with
      | 1, h => exact h
      | 3, h => exact h
      | 5, h => exact h
      | 0, h | 2, h | 4, h | 6, h => exact h
      | (n + 7), _ => trivial
    case s3 =>
      intro i o ac wb K' ho hi hA hB hdep hK
      have sv2 : ac.tmps[2]?.getD undef = .pointer (some ⟨w.heap.size + 1, 0, none⟩) := hA.sl (t := 2) (by decide)
      have sv3 : ac.tmps[3]?.getD undef = .pointer (some ⟨w3.heap.size, 0, none⟩) := hA.sl (t := 3) (by decide)
      have sv8 : ac.tmps[8]?.getD undef = .pointer (some ⟨w9.heap.size, 0, none⟩) := hA.sl (t := 8) (by decide)
      have sv6 : ac.tmps[6]?.getD undef = .pointer (some ⟨w7.heap.size, 0, none⟩) := hA.sl (t := 6) (by decide)
      have x0 := cells_frame hB x0
      have x1 := cells_frame hB x1
      have x2 := cells_frame hB x2
      have x3 := cells_frame hB x3
      have x4 := cells_frame hB x4
      have x5 := cells_frame hB x5
      have y0 := cells_frame hB y0
      have y1 := cells_frame hB y1
      have y2 := cells_frame hB y2
      have y3 := cells_frame hB y3
      have y4 := cells_frame hB y4
      have y5 := cells_frame hB y5
      have z0 := cells_frame hB z0
      have z1 := cells_frame hB z1
      have z2 := cells_frame hB z2
      have z3 := cells_frame hB z3
      have z4 := cells_frame hB z4
      have z5 := cells_frame hB z5
      rcases (by omega : i = 0 ∨ i = 1 ∨ i = 2 ∨ i = 3 ∨ i = 4 ∨ i = 5 ∨ i = 6) with rfl | rfl | rfl | rfl | rfl | rfl | rfl
      · simp at ho
        subst ho
        clear hdep hA
        go_simp
        exact hK _ wb (Below.refl _ _) rfl
      · simp at ho
        subst ho
        have y0 : ac.tmps[30]?.getD undef = .agg #[.int .i64 d0, .bool d1, .int .i64 d2, .string d3, .slice d4 d4l d4c, .slice d5 d5l d5c] := hdep { on := 0, ground := .data } (by simp) rfl
        clear hdep hA
        go_simp
        refine (otext_any _ _ _ _ _ _ _ _ _ _ wb).mono ?_
        rintro e w5 ⟨he, hb5⟩
        rw [KKD.out] at he
        subst he
        exact hK _ w5 hb5 rfl
      · simp at ho
        subst ho
        clear hdep hA
        go_simp
        exact hK _ wb (Below.refl _ _) rfl
      · simp at ho
        subst ho
        have y2 : ac.tmps[32]?.getD undef = .agg #[.int .i64 q0, .bool q1, .int .i64 q2, .string q3, .slice q4 q4l q4c, .slice q5 q5l q5c] := hdep { on := 2, ground := .data } (by simp) rfl
        clear hdep hA
        go_simp
        refine (otext_any _ _ _ _ _ _ _ _ _ _ wb).mono ?_
        rintro e w5 ⟨he, hb5⟩
        rw [KQ.out] at he
        subst he
        exact hK _ w5 hb5 rfl
      · simp at ho
        subst ho
        clear hdep hA
        go_simp
        exact hK _ wb (Below.refl _ _) rfl
      · simp at ho
        subst ho
        have y4 : ac.tmps[34]?.getD undef = .agg #[.int .i64 n0, .bool n1, .int .i64 n2, .string n3, .slice n4 n4l n4c, .slice n5 n5l n5c] := hdep { on := 4, ground := .data } (by simp) rfl
        clear hdep hA
        go_simp
        refine (otext_any _ _ _ _ _ _ _ _ _ _ wb).mono ?_
        rintro e w5 ⟨he, hb5⟩
        rw [KKN.out] at he
        subst he
        exact hK _ w5 hb5 rfl
      · simp at ho
        subst ho
        have y1 : ac.tmps[31]?.getD undef = .string kk := hdep { on := 1, ground := .data } (by simp) rfl
        have y3 : ac.tmps[33]?.getD undef = .string ss := hdep { on := 3, ground := .data } (by simp) rfl
        have y5 : ac.tmps[35]?.getD undef = .string nn := hdep { on := 5, ground := .data } (by simp) rfl
        clear hdep hA
        go_simp
        exact hK _ wb (Below.refl _ _) rfl
    case s4 =>
      intro o ac wb K' ho hA hB hU hK
      have sv2 : ac.tmps[2]?.getD undef = .pointer (some ⟨w.heap.size + 1, 0, none⟩) := hA.sl (t := 2) (by decide)
      have sv3 : ac.tmps[3]?.getD undef = .pointer (some ⟨w3.heap.size, 0, none⟩) := hA.sl (t := 3) (by decide)
      have sv8 : ac.tmps[8]?.getD undef = .pointer (some ⟨w9.heap.size, 0, none⟩) := hA.sl (t := 8) (by decide)
      have sv6 : ac.tmps[6]?.getD undef = .pointer (some ⟨w7.heap.size, 0, none⟩) := hA.sl (t := 6) (by decide)
      have x0 := cells_frame hB x0
      have x1 := cells_frame hB x1
      have x2 := cells_frame hB x2
      have x3 := cells_frame hB x3
      have x4 := cells_frame hB x4
      have x5 := cells_frame hB x5
      have y0 := cells_frame hB y0
      have y1 := cells_frame hB y1
      have y2 := cells_frame hB y2
      have y3 := cells_frame hB y3
      have y4 := cells_frame hB y4
      have y5 := cells_frame hB y5
      have z0 := cells_frame hB z0
      have z1 := cells_frame hB z1
      have z2 := cells_frame hB z2
      have z3 := cells_frame hB z3
      have z4 := cells_frame hB z4
      have z5 := cells_frame hB z5
      simp at ho
      subst ho
      have y6 : ac.tmps[36]?.getD undef = .agg #[.string kk, .string ss, .string nn] := hU 6 (by omega)
      clear hU hA
      obtain ⟨i0, i1, i2, it⟩ := I0.out.later hB (by omega)
      have f0 := it 0
      have f1 := it 1
      have f2 := it 2
      go_simp
      exact hK _ ⟨wb, hB, rfl⟩
    case s5 =>
      intro ac wn hA hF
      have hs : slots 7 (fun i => 30 + i) = [30, 31, 32, 33, 34, 35, 36] := by rfl
      rw [hs] at hA
      have hac := hA.act (fun t ht => by
        have h8 : t = 30 ∨ t = 31 ∨ t = 32 ∨ t = 33 ∨ t = 34 ∨ t = 35 ∨ t = 36 := by simpa using ht
        rcases h8 with rfl | rfl | rfl | rfl | rfl | rfl | rfl <;> exact Nat.lt_of_lt_of_le (by decide : _ < 37) (Nat.le_refl 37))
      rw [List.foldl_cons, List.foldl_cons, List.foldl_cons, List.foldl_cons, List.foldl_cons, List.foldl_cons, List.foldl_cons, List.foldl_nil] at hac
      generalize sl ac 30 = x30 at hac
      generalize sl ac 31 = x31 at hac
      generalize sl ac 32 = x32 at hac
      generalize sl ac 33 = x33 at hac
      generalize sl ac 34 = x34 at hac
      generalize sl ac 35 = x35 at hac
      generalize sl ac 36 = x36 at hac
      clear hA hs
      subst hac
      simp only [Act.put, List.setIfInBounds_toArray, List.set_cons_succ, List.set_cons_zero]
      obtain ⟨w12, hb12, rfl⟩ := hF
      have IR := Lib.hid (I0.out.later hb12 (by omega))
      have HBF := Lib.hid (setRow_below (w.heap.size + 1) (by omega) [.string kk, .string ss, .string nn] w12 0 (bstep HBU.out hb12 HBU.out.size))
      clear hb12
      generalize hW : setRow w12 (w.heap.size + 1) 0 [.string kk, .string ss, .string nn] = W13 at HBF ⊢
      have HW13 := Lib.hid hW.symm
      clear hW
      go_wp2_with fail
      exact ret_cells w12 (w.heap.size + 1) [.string kk, .string ss, .string nn] HW13.out Tryd.results25 rfl rfl DD.out HU.out Tryd.sizeID IR.out.cells ⟨by rw [Ekk.out, Enn.out, Ess.out], by rw [← HW13.out]; exact HBF.out⟩

end Go.Proofs.YtbmlmcoepmbelaaDoor
