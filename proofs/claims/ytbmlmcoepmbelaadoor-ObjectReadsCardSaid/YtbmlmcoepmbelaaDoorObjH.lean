/-
  Hook; the reference's Hook, Key and Of.
-/
import Derived.Test.YtbmlmcoepmbelaaDoorObjG
import Derived.Test.YtbmlmcoepmbelaaDoorRGetO
set_option linter.unusedVariables false
set_option linter.unusedSimpArgs false
namespace Go.Proofs.YtbmlmcoepmbelaaDoor
open Go.RowKit Go.Sort

theorem r12Key_any (k p n : ByteArray) (hk : k.size ≤ 140737488355328) (hp : p.size ≤ 140737488355328) (hn : n.size ≤ 140737488355328) (w : World) :
    Calls Tryd.prog 13 #[.agg #[.string k, .string p, .string n]] w fun e w' => e = .returned (.string (keyO k p n)) ∧ Below w.heap.size w w' := by
  have z1 : (⟨#[47]⟩ : ByteArray).size = 1 := rfl
  have s1 : (k ++ (⟨#[47]⟩ : ByteArray)).size ≤ 140737488355329 := by rw [ByteArray.size_append]; omega
  have s2 : ((k ++ (⟨#[47]⟩ : ByteArray)) ++ p).size ≤ 281474976710657 := by rw [ByteArray.size_append]; omega
  have s3 : (((k ++ (⟨#[47]⟩ : ByteArray)) ++ p) ++ (⟨#[47]⟩ : ByteArray)).size ≤ 281474976710658 := by rw [ByteArray.size_append]; omega
  go_enter Tryd.func13, Tryd.ntmps13
  go_wp2_with fail
  go_ret
  exact ⟨rfl, (Below.refl _ _).alloc (Nat.le_refl _) _⟩

set_option maxRecDepth 100000 in
theorem oHook_any {w0 : World} {R : Nat → Prop} {t : T} {c0 : Int} {c1 : Bool} {c2 : Int} {c3 : ByteArray} {c4 : Option Addr} {c4l c4c : Nat} {c5 : Option Addr} {c5l c5c : Nat} (h : Lies w0 R t #[.int .i64 c0, .bool c1, .int .i64 c2, .string c3, .slice c4 c4l c4c, .slice c5 c5l c5c]) (ik ip im : ByteArray) (w : World) (hw : Below w0.heap.size w0 w) :
    Calls Tryd.prog 14 #[.agg #[.string ik, .string ip, .string im, .int .i64 c0, .bool c1, .int .i64 c2, .string c3, .slice c4 c4l c4c, .slice c5 c5l c5c]] w fun e w' => e = .returned (.string (hookO t)) ∧ Below w.heap.size w w' := by
  have hb1 := (Below.refl w.heap.size w).alloc (Nat.le_refl _) (.cells #[.string ik, .string ip, .string im, .int .i64 c0, .bool c1, .int .i64 c2, .string c3, .slice c4 c4l c4c, .slice c5 c5l c5c] 31)
  have b1 := Box9.new w #[.string ik, .string ip, .string im, .int .i64 c0, .bool c1, .int .i64 c2, .string c3, .slice c4 c4l c4c, .slice c5 c5l c5c] 31
  have MT := Lib.hid (fun w' hw' => ometadata_any h w' hw')
  have HW := Lib.hid (bstep hw hb1 hw.size)
  have HB1 := Lib.hid hb1
  obtain ⟨y0, y1, y2, x0, x1, x2, x3, x4, x5⟩ := b1.nine
  clear hb1 b1 h hw
  go_enter Tryd.func14, Tryd.ntmps14
  go_upto_region 1 with fail
  generalize w.alloc (.cells #[.string ik, .string ip, .string im, .int .i64 c0, .bool c1, .int .i64 c2, .string c3, .slice c4 c4l c4c, .slice c5 c5l c5c] 31) = v at *
  go_upto_region 2 with (first
    | (go_at_call 31; refine (MT.out v HW.out).mono ?_; rintro e w3 ⟨ds, rfl, hl, hb3⟩; have HL := Lib.hid hl; have HB3 := Lib.hid hb3; clear hl hb3)
    | (go_at_call 30; refine (tGet_any HL.out kHook w3 (Below.refl _ _)).mono ?_; rintro e w4 ⟨es, rfl, hl4, hb4⟩; have HL4 := Lib.hid hl4; have HB4 := Lib.hid hb4; obtain ⟨d0, d1, d2, d3, d4, d4l, d4c, d5, d5l, d5c, rfl⟩ := hl4.six; clear hl4 hb4))
  have hb5 := HB4.out.alloc HB4.out.size (.cells #[.int .i64 d0, .bool d1, .int .i64 d2, .string d3, .slice d4 d4l d4c, .slice d5 d5l d5c] 25)
  have b5 := Box6.new w4 #[.int .i64 d0, .bool d1, .int .i64 d2, .string d3, .slice d4 d4l d4c, .slice d5 d5l d5c] 25
  have l5 := HL4.out.later ((Below.refl w4.heap.size w4).alloc (Nat.le_refl _) (.cells #[.int .i64 d0, .bool d1, .int .i64 d2, .string d3, .slice d4 d4l d4c, .slice d5 d5l d5c] 25))
  clear x0 x1 x2 x3 x4 x5 y0 y1 y2
  generalize w4.alloc (.cells #[.int .i64 d0, .bool d1, .int .i64 d2, .string d3, .slice d4 d4l d4c, .slice d5 d5l d5c] 25) = v5 at *
  have TX : Hid (∀ w', Calls Tryd.prog 32 #[.agg #[.int .i64 d0, .bool d1, .int .i64 d2, .string d3, .slice d4 d4l d4c, .slice d5 d5l d5c]] w' fun e w2 => e = .returned (.string (hookO t)) ∧ Below w'.heap.size w' w2) := fun w' => otext_lies l5 w'
  have H13 := bstep HB1.out HB3.out HB1.out.size
  have H15 := bstep H13 hb5 H13.size
  have H := Lib.hid H15
  obtain ⟨x0, x1, x2, x3, x4, x5⟩ := b5.six
  clear hb5 b5 l5 H13 H15
  go_wp2_with (go_at_call 32; refine (TX.out _).mono ?_; rintro e w6 ⟨rfl, hb6⟩; have HB6 := Lib.hid hb6; clear hb6)
  go_ret
  exact ⟨rfl, bstep H.out HB6.out H.out.size⟩

set_option maxRecDepth 100000 in
set_option maxHeartbeats 4000000 in
theorem r12Hook_any {w0 : World} {R : Nat → Prop} {t : T} {c0 : Int} {c1 : Bool} {c2 : Int} {c3 : ByteArray} {c4 : Option Addr} {c4l c4c : Nat} {c5 : Option Addr} {c5l c5c : Nat} (h : Lies w0 R t #[.int .i64 c0, .bool c1, .int .i64 c2, .string c3, .slice c4 c4l c4c, .slice c5 c5l c5c]) (ik ip im : ByteArray) (w : World) (hw : Below w0.heap.size w0 w) :
    Calls Tryd.prog 15 #[.agg #[.string ik, .string ip, .string im, .int .i64 c0, .bool c1, .int .i64 c2, .string c3, .slice c4 c4l c4c, .slice c5 c5l c5c]] w fun e w' => e = .returned (.string (rHook t)) ∧ Below w.heap.size w w' := by
  have hb1 := (Below.refl w.heap.size w).alloc (Nat.le_refl _) (.cells #[.string ik, .string ip, .string im, .int .i64 c0, .bool c1, .int .i64 c2, .string c3, .slice c4 c4l c4c, .slice c5 c5l c5c] 31)
  have b1 := Box9.new w #[.string ik, .string ip, .string im, .int .i64 c0, .bool c1, .int .i64 c2, .string c3, .slice c4 c4l c4c, .slice c5 c5l c5c] 31
  have HW := Lib.hid (bstep hw hb1 hw.size)
  have H := Lib.hid h
  have HB1 := Lib.hid hb1
  obtain ⟨y0, y1, y2, x0, x1, x2, x3, x4, x5⟩ := b1.nine
  clear hb1 b1 h hw
  go_enter Tryd.func15, Tryd.ntmps15
  go_upto_region 1 with fail
  generalize w.alloc (.cells #[.string ik, .string ip, .string im, .int .i64 c0, .bool c1, .int .i64 c2, .string c3, .slice c4 c4l c4c, .slice c5 c5l c5c] 31) = v at *
  go_upto_region 2 with (go_at_call 28; refine (rGet_any H.out kMeta v HW.out).mono ?_; rintro e w3 ⟨ds, rfl, hl, hb3⟩; obtain ⟨m0, m1, m2, m3, m4, m4l, m4c, m5, m5l, m5c, rfl⟩ := hl.six; have HL := Lib.hid hl; have HB3 := Lib.hid hb3; clear hl hb3)
  have hbv3 := HB3.out.alloc HB3.out.size (.cells #[.int .i64 m0, .bool m1, .int .i64 m2, .string m3, .slice m4 m4l m4c, .slice m5 m5l m5c] 25)
  have b3 := Box6.new w3 #[.int .i64 m0, .bool m1, .int .i64 m2, .string m3, .slice m4 m4l m4c, .slice m5 m5l m5c] 25
  have hlv3 := HL.out.later ((Below.refl w3.heap.size w3).alloc (Nat.le_refl _) (.cells #[.int .i64 m0, .bool m1, .int .i64 m2, .string m3, .slice m4 m4l m4c, .slice m5 m5l m5c] 25))
  have hs3 : w3.heap.size < (w3.alloc (.cells #[.int .i64 m0, .bool m1, .int .i64 m2, .string m3, .slice m4 m4l m4c, .slice m5 m5l m5c] 25)).heap.size := by simp
  have KS3 := Lib.hid (lies_flat HL.out).2.1
  clear x0 x1 x2 x3 x4 x5 HL
  generalize w3.alloc (.cells #[.int .i64 m0, .bool m1, .int .i64 m2, .string m3, .slice m4 m4l m4c, .slice m5 m5l m5c] 25) = v3 at *
  have HLV3 := Lib.hid hlv3
  have BX3 := Lib.hid b3
  have HV3 := Lib.hid hbv3
  have hzv3 := hbv3.size
  clear hlv3 b3 hbv3
  clear y0 y1 y2
  obtain ⟨x0, x1, x2, x3, x4, x5⟩ := BX3.out.six
  go_upto_region 3 with (go_at_call 28; refine (rGet_any HLV3.out kHook v3 (Below.refl _ _)).mono ?_; rintro e w4 ⟨ds, rfl, hl, hb4⟩; obtain ⟨d0, d1, d2, d3, d4, d4l, d4c, d5, d5l, d5c, rfl⟩ := hl.six; have HL := Lib.hid hl; have HB4 := Lib.hid hb4; clear hl hb4)
  have hbv4 := HB4.out.alloc HB4.out.size (.cells #[.int .i64 d0, .bool d1, .int .i64 d2, .string d3, .slice d4 d4l d4c, .slice d5 d5l d5c] 25)
  have b4 := Box6.new w4 #[.int .i64 d0, .bool d1, .int .i64 d2, .string d3, .slice d4 d4l d4c, .slice d5 d5l d5c] 25
  have hlv4 := HL.out.later ((Below.refl w4.heap.size w4).alloc (Nat.le_refl _) (.cells #[.int .i64 d0, .bool d1, .int .i64 d2, .string d3, .slice d4 d4l d4c, .slice d5 d5l d5c] 25))
  have hs4 : w4.heap.size < (w4.alloc (.cells #[.int .i64 d0, .bool d1, .int .i64 d2, .string d3, .slice d4 d4l d4c, .slice d5 d5l d5c] 25)).heap.size := by simp
  have KS4 := Lib.hid (lies_flat HL.out).2.1
  clear x0 x1 x2 x3 x4 x5 HL
  generalize w4.alloc (.cells #[.int .i64 d0, .bool d1, .int .i64 d2, .string d3, .slice d4 d4l d4c, .slice d5 d5l d5c] 25) = v4 at *
  have HLV4 := Lib.hid hlv4
  have BX4 := Lib.hid b4
  have HV4 := Lib.hid hbv4
  have hzv4 := hbv4.size
  clear hlv4 b4 hbv4
  have RH : Hid (rHook t = d3) := KS4.out
  obtain ⟨x0, x1, x2, x3, x4, x5⟩ := BX4.out.six
  have H13 := bstep HB1.out HV3.out HB1.out.size
  have HF := Lib.hid (bstep H13 HV4.out H13.size)
  clear H13
  go_wp2_with fail
  go_ret
  rw [RH.out]
  exact ⟨rfl, HF.out⟩

/-- The reference's object. -/
def rofO (t : T) : ObjR := if t.check ≠ 0 then objZ t.check else if (!rightO (rKind t) (rSpace t) (rName t) || decide (rKind t = kRelease)) = true then objZ 26 else ⟨rKind t, rSpace t, rName t, t, 0⟩
theorem rof_of (t : T) : rofO t = ofO t := by
  unfold rofO ofO
  by_cases hc : t.check = 0
  · have hp := check_parts hc
    have hb : (!rightO (rKind t) (rSpace t) (rName t) || decide (rKind t = kRelease)) = badO t := by rw [good_kind hp, good_name hp, good_space hp, Bool.or_comm]; rfl
    rw [if_neg (show ¬ (t.check ≠ 0) by simp [hc]), if_neg (show ¬ (t.check ≠ 0) by simp [hc]), hb, good_kind hp, good_name hp, good_space hp]
  · rw [if_pos hc, if_pos hc]
/-- The variable of an ID, behind the test. -/
def IdAt (v6 : World) (k p n : ByteArray) (wx : World) : Prop := wx.cell? ⟨v6.heap.size, 0, none⟩ = some (.string k) ∧ wx.cell? ⟨v6.heap.size, 1, none⟩ = some (.string p) ∧ wx.cell? ⟨v6.heap.size, 2, none⟩ = some (.string n) ∧ Below v6.heap.size v6 wx ∧ v6.heap.size < wx.heap.size ∧ p.size ≤ 140737488355328
def ROfTo (w : World) (r : ObjR) (e : Ending) (w' : World) : Prop := ∃ (q0 : Int) (q1 : Bool) (q2 : Int) (q3 : ByteArray) (q4 : Option Addr) (q4l q4c : Nat) (q5 : Option Addr) (q5l q5c : Nat), e = .returned (.tuple #[.agg #[.string r.k, .string r.p, .string r.n, .int .i64 q0, .bool q1, .int .i64 q2, .string q3, .slice q4 q4l q4c, .slice q5 q5l q5c], .int .i64 r.c]) ∧ Lies w' (fun _ => True) r.u #[.int .i64 q0, .bool q1, .int .i64 q2, .string q3, .slice q4 q4l q4c, .slice q5 q5l q5c] ∧ Below w.heap.size w w'

set_option maxRecDepth 100000 in
set_option maxHeartbeats 4000000 in
theorem r12Of_any {w0 : World} {R : Nat → Prop} {t : T} {cs : Array Value} (h : Lies w0 R t cs) (hsz : t.size ≤ 1000000) (w : World) (hw : Below w0.heap.size w0 w) :
    Calls Tryd.prog 9 #[.agg cs] w (ROfTo w (rofO t)) := by
  obtain ⟨dd, hu, hdd⟩ := Tryd.structO
  have DD := Lib.hid hdd
  have HU := Lib.hid hu
  have H := Lib.hid h
  have HW := Lib.hid hw
  have CK := Lib.hid (fun w' hw' => rCheck_any h w' hw' (by omega))
  obtain ⟨c0, c1, c2, c3, c4, c4l, c4c, c5, c5l, c5c, rfl⟩ := h.six
  clear hdd hu h hw
  have e1 : (w.alloc (.cells #[.int .i64 c0, .bool c1, .int .i64 c2, .string c3, .slice c4 c4l c4c, .slice c5 c5l c5c] 25)).heap.size = w.heap.size + 1 := by simp
  have hb2 : Below w.heap.size w ((w.alloc (.cells #[.int .i64 c0, .bool c1, .int .i64 c2, .string c3, .slice c4 c4l c4c, .slice c5 c5l c5c] 25)).alloc (.cells #[.string ⟨#[]⟩, .string ⟨#[]⟩, .string ⟨#[]⟩, .int .i64 0, .bool false, .int .i64 0, .string ⟨#[]⟩, .slice none 0 0, .slice none 0 0] 31)) := ((Below.refl _ _).alloc (Nat.le_refl _) _).alloc (by simp) _
  have b0 : Box6 ((w.alloc (.cells #[.int .i64 c0, .bool c1, .int .i64 c2, .string c3, .slice c4 c4l c4c, .slice c5 c5l c5c] 25)).alloc (.cells #[.string ⟨#[]⟩, .string ⟨#[]⟩, .string ⟨#[]⟩, .int .i64 0, .bool false, .int .i64 0, .string ⟨#[]⟩, .slice none 0 0, .slice none 0 0] 31)) w.heap.size #[.int .i64 c0, .bool c1, .int .i64 c2, .string c3, .slice c4 c4l c4c, .slice c5 c5l c5c] := (Box6.new w #[.int .i64 c0, .bool c1, .int .i64 c2, .string c3, .slice c4 c4l c4c, .slice c5 c5l c5c] 25).later ((Below.refl (w.heap.size + 1) _).alloc (by simp) _) (by omega)
  have b1 := Box9.new (w.alloc (.cells #[.int .i64 c0, .bool c1, .int .i64 c2, .string c3, .slice c4 c4l c4c, .slice c5 c5l c5c] 25)) #[.string ⟨#[]⟩, .string ⟨#[]⟩, .string ⟨#[]⟩, .int .i64 0, .bool false, .int .i64 0, .string ⟨#[]⟩, .slice none 0 0, .slice none 0 0] 31
  have t1 := Thaw.new (w.alloc (.cells #[.int .i64 c0, .bool c1, .int .i64 c2, .string c3, .slice c4 c4l c4c, .slice c5 c5l c5c] 25)) #[.string ⟨#[]⟩, .string ⟨#[]⟩, .string ⟨#[]⟩, .int .i64 0, .bool false, .int .i64 0, .string ⟨#[]⟩, .slice none 0 0, .slice none 0 0] 31
  rw [e1] at b1 t1
  have es : ((w.alloc (.cells #[.int .i64 c0, .bool c1, .int .i64 c2, .string c3, .slice c4 c4l c4c, .slice c5 c5l c5c] 25)).alloc (.cells #[.string ⟨#[]⟩, .string ⟨#[]⟩, .string ⟨#[]⟩, .int .i64 0, .bool false, .int .i64 0, .string ⟨#[]⟩, .slice none 0 0, .slice none 0 0] 31)).heap.size = w.heap.size + 2 := by simp
  have HB2 := Lib.hid hb2
  have B0 := Lib.hid b0
  have B1 := Lib.hid b1
  have T1 := Lib.hid t1
  have ES := Lib.hid es
  obtain ⟨x0, x1, x2, x3, x4, x5⟩ := b0.six
  clear e1 hb2 b0 b1 t1 es
  go_enter Tryd.func9, Tryd.ntmps9
  go_upto_region 1 with fail
  generalize ((w.alloc (.cells #[.int .i64 c0, .bool c1, .int .i64 c2, .string c3, .slice c4 c4l c4c, .slice c5 c5l c5c] 25)).alloc (.cells #[.string ⟨#[]⟩, .string ⟨#[]⟩, .string ⟨#[]⟩, .int .i64 0, .bool false, .int .i64 0, .string ⟨#[]⟩, .slice none 0 0, .slice none 0 0] 31)) = v at *
  have hvs := Nat.le_of_eq ES.out.symm
  have CKV := Lib.hid (CK.out v (bstep HW.out HB2.out HW.out.size))
  have OFE : Hid (rofO t = if t.check ≠ 0 then objZ t.check else if (!rightO (rKind t) (rSpace t) (rName t) || decide (rKind t = kRelease)) = true then objZ 26 else ⟨rKind t, rSpace t, rName t, t, 0⟩) := rfl
  generalize t.check = ck at *
  go_upto_region 2 with (go_at_call 27; refine CKV.out.mono ?_; rintro e w2 ⟨rfl, hb2⟩; have HC2 := Lib.hid hb2; clear hb2)
  have hz2 := HC2.out.size
  have HB12 := Lib.hid (bstep HB2.out HC2.out HB2.out.size)
  have B12 := Lib.hid (B1.out.later HC2.out (by omega))
  have T12 := Lib.hid (T1.out.later HC2.out (by omega))
  have B02 := Lib.hid (B0.out.later HC2.out (by omega))
  clear x0 x1 x2 x3 x4 x5
  by_cases hc : ck = 0
  case neg =>
    have OF1 : Hid (rofO t = objZ ck) := OFE.out.trans (if_pos hc)
    have hq : (ck != 0) = true := by simp [hc]
    obtain ⟨z0, z1, z2, z3, z4, z5, z6, z7, z8⟩ := B12.out.nine
    obtain ⟨f0, f1, f2, f3, f4, f5, f6, f7, f8⟩ := T12.out.nine
    clear hc OFE
    go_wp2_with fail
    refine ret_cells_tmp w2 (w.heap.size + 1) [.string ⟨#[]⟩, .string ⟨#[]⟩, .string ⟨#[]⟩, .int .i64 0, .bool false, .int .i64 0, .string ⟨#[]⟩, .slice none 0 0, .slice none 0 0] rfl Tryd.results9 rfl rfl DD.out HU.out Tryd.sizeO (fun i hi => B12.out.cells rfl i hi) ?_
    have hbf := setRow_below (w.heap.size + 1) (by omega) [.string ⟨#[]⟩, .string ⟨#[]⟩, .string ⟨#[]⟩, .int .i64 0, .bool false, .int .i64 0, .string ⟨#[]⟩, .slice none 0 0, .slice none 0 0] w2 0 HB12.out
    rw [OF1.out]
    exact ⟨0, false, 0, ⟨#[]⟩, none, 0, 0, none, 0, 0, rfl, nil_lies _ _, hbf⟩
  subst hc
  have OF1 : Hid (rofO t = if (!rightO (rKind t) (rSpace t) (rName t) || decide (rKind t = kRelease)) = true then objZ 26 else ⟨rKind t, rSpace t, rName t, t, 0⟩) := OFE.out.trans (if_neg (by simp))
  clear OFE CKV CK
  obtain ⟨x0, x1, x2, x3, x4, x5⟩ := B02.out.six
  go_upto_region 5 with (go_at_call 28; refine (rGet_any H.out kKind w2 (bstep HW.out HB12.out HW.out.size)).mono ?_; rintro e w3 ⟨ds, rfl, hl, hb3⟩; obtain ⟨k0, k1, k2, k3, k4, k4l, k4c, k5, k5l, k5c, rfl⟩ := hl.six; have HL := Lib.hid hl; have HB3 := Lib.hid hb3; clear hl hb3)
  have hbv3 := HB3.out.alloc HB3.out.size (.cells #[.int .i64 k0, .bool k1, .int .i64 k2, .string k3, .slice k4 k4l k4c, .slice k5 k5l k5c] 25)
  have b3 := Box6.new w3 #[.int .i64 k0, .bool k1, .int .i64 k2, .string k3, .slice k4 k4l k4c, .slice k5 k5l k5c] 25
  have hlv3 := HL.out.later ((Below.refl w3.heap.size w3).alloc (Nat.le_refl _) (.cells #[.int .i64 k0, .bool k1, .int .i64 k2, .string k3, .slice k4 k4l k4c, .slice k5 k5l k5c] 25))
  have hs3 : w3.heap.size < (w3.alloc (.cells #[.int .i64 k0, .bool k1, .int .i64 k2, .string k3, .slice k4 k4l k4c, .slice k5 k5l k5c] 25)).heap.size := by simp
  have KS3 := Lib.hid (lies_flat HL.out).2.1
  clear x0 x1 x2 x3 x4 x5 HL
  generalize w3.alloc (.cells #[.int .i64 k0, .bool k1, .int .i64 k2, .string k3, .slice k4 k4l k4c, .slice k5 k5l k5c] 25) = v3 at *
  have HLV3 := Lib.hid hlv3
  have BX3 := Lib.hid b3
  have HV3 := Lib.hid hbv3
  have hzv3 := hbv3.size
  clear hlv3 b3 hbv3
  have hb03 := HV3.out
  obtain ⟨x0, x1, x2, x3, x4, x5⟩ := (B02.out.later hb03 (by omega)).six
  clear hb03
  go_upto_region 6 with (go_at_call 28; refine (rGet_any H.out kMeta v3 (bstep HW.out (bstep HB12.out HV3.out HB12.out.size) HW.out.size)).mono ?_; rintro e w4 ⟨ds, rfl, hl, hb4⟩; obtain ⟨m0, m1, m2, m3, m4, m4l, m4c, m5, m5l, m5c, rfl⟩ := hl.six; have HL := Lib.hid hl; have HB4 := Lib.hid hb4; clear hl hb4)
  have hbv4 := HB4.out.alloc HB4.out.size (.cells #[.int .i64 m0, .bool m1, .int .i64 m2, .string m3, .slice m4 m4l m4c, .slice m5 m5l m5c] 25)
  have b4 := Box6.new w4 #[.int .i64 m0, .bool m1, .int .i64 m2, .string m3, .slice m4 m4l m4c, .slice m5 m5l m5c] 25
  have hlv4 := HL.out.later ((Below.refl w4.heap.size w4).alloc (Nat.le_refl _) (.cells #[.int .i64 m0, .bool m1, .int .i64 m2, .string m3, .slice m4 m4l m4c, .slice m5 m5l m5c] 25))
  have hs4 : w4.heap.size < (w4.alloc (.cells #[.int .i64 m0, .bool m1, .int .i64 m2, .string m3, .slice m4 m4l m4c, .slice m5 m5l m5c] 25)).heap.size := by simp
  have KS4 := Lib.hid (lies_flat HL.out).2.1
  clear x0 x1 x2 x3 x4 x5 HL
  generalize w4.alloc (.cells #[.int .i64 m0, .bool m1, .int .i64 m2, .string m3, .slice m4 m4l m4c, .slice m5 m5l m5c] 25) = v4 at *
  have HLV4 := Lib.hid hlv4
  have BX4 := Lib.hid b4
  have HV4 := Lib.hid hbv4
  have hzv4 := hbv4.size
  clear hlv4 b4 hbv4
  obtain ⟨x0, x1, x2, x3, x4, x5⟩ := BX4.out.six
  go_upto_region 7 with (go_at_call 28; refine (rGet_any HLV4.out kName v4 (Below.refl _ _)).mono ?_; rintro e w5 ⟨ds, rfl, hl, hb5⟩; obtain ⟨n0, n1, n2, n3, n4, n4l, n4c, n5, n5l, n5c, rfl⟩ := hl.six; have HL := Lib.hid hl; have HB5 := Lib.hid hb5; clear hl hb5)
  have hbv5 := HB5.out.alloc HB5.out.size (.cells #[.int .i64 n0, .bool n1, .int .i64 n2, .string n3, .slice n4 n4l n4c, .slice n5 n5l n5c] 25)
  have b5 := Box6.new w5 #[.int .i64 n0, .bool n1, .int .i64 n2, .string n3, .slice n4 n4l n4c, .slice n5 n5l n5c] 25
  have hlv5 := HL.out.later ((Below.refl w5.heap.size w5).alloc (Nat.le_refl _) (.cells #[.int .i64 n0, .bool n1, .int .i64 n2, .string n3, .slice n4 n4l n4c, .slice n5 n5l n5c] 25))
  have hs5 : w5.heap.size < (w5.alloc (.cells #[.int .i64 n0, .bool n1, .int .i64 n2, .string n3, .slice n4 n4l n4c, .slice n5 n5l n5c] 25)).heap.size := by simp
  have KS5 := Lib.hid (lies_flat HL.out).2.1
  clear x0 x1 x2 x3 x4 x5 HL
  generalize w5.alloc (.cells #[.int .i64 n0, .bool n1, .int .i64 n2, .string n3, .slice n4 n4l n4c, .slice n5 n5l n5c] 25) = v5 at *
  have HLV5 := Lib.hid hlv5
  have BX5 := Lib.hid b5
  have HV5 := Lib.hid hbv5
  have hzv5 := hbv5.size
  clear hlv5 b5 hbv5
  obtain ⟨x0, x1, x2, x3, x4, x5⟩ := (BX4.out.later HV5.out hs4).six
  go_upto_region 8 with (go_at_call 28; refine (rGet_any HLV4.out kSpace v5 HV5.out).mono ?_; rintro e w6 ⟨ds, rfl, hl, hb6⟩; obtain ⟨p0, p1, p2, p3, p4, p4l, p4c, p5, p5l, p5c, rfl⟩ := hl.six; have HL := Lib.hid hl; have HB6 := Lib.hid hb6; clear hl hb6)
  have hbv6 := HB6.out.alloc HB6.out.size (.cells #[.int .i64 p0, .bool p1, .int .i64 p2, .string p3, .slice p4 p4l p4c, .slice p5 p5l p5c] 25)
  have b6 := Box6.new w6 #[.int .i64 p0, .bool p1, .int .i64 p2, .string p3, .slice p4 p4l p4c, .slice p5 p5l p5c] 25
  have hlv6 := HL.out.later ((Below.refl w6.heap.size w6).alloc (Nat.le_refl _) (.cells #[.int .i64 p0, .bool p1, .int .i64 p2, .string p3, .slice p4 p4l p4c, .slice p5 p5l p5c] 25))
  have hs6 : w6.heap.size < (w6.alloc (.cells #[.int .i64 p0, .bool p1, .int .i64 p2, .string p3, .slice p4 p4l p4c, .slice p5 p5l p5c] 25)).heap.size := by simp
  have KS6 := Lib.hid (lies_flat HL.out).2.1
  clear x0 x1 x2 x3 x4 x5 HL
  generalize w6.alloc (.cells #[.int .i64 p0, .bool p1, .int .i64 p2, .string p3, .slice p4 p4l p4c, .slice p5 p5l p5c] 25) = v6 at *
  have HLV6 := Lib.hid hlv6
  have BX6 := Lib.hid b6
  have HV6 := Lib.hid hbv6
  have hzv6 := hbv6.size
  clear hlv6 b6 hbv6
  have hw3 := HB3.out.size
  have hw4 := HB4.out.size
  have hw5 := HB5.out.size
  have hw6 := HB6.out.size
  have BK := Lib.hid (((BX3.out.later HV4.out (by omega)).later HV5.out (by omega)).later HV6.out (by omega))
  have BN := Lib.hid (BX5.out.later HV6.out hs5)
  have B03 := Lib.hid ((((B02.out.later HV3.out (by omega)).later HV4.out (by omega)).later HV5.out (by omega)).later HV6.out (by omega))
  have B13 := Lib.hid ((((B12.out.later HV3.out (by omega)).later HV4.out (by omega)).later HV5.out (by omega)).later HV6.out (by omega))
  have T13 := Lib.hid ((((T12.out.later HV3.out (by omega)).later HV4.out (by omega)).later HV5.out (by omega)).later HV6.out (by omega))
  have hh3 := bstep HB12.out HV3.out HB12.out.size
  have hh4 := bstep hh3 HV4.out hh3.size
  have hh5 := bstep hh4 HV5.out hh4.size
  have HB6' := Lib.hid (bstep hh5 HV6.out hh5.size)
  have hbw := bstep HW.out HB6'.out HW.out.size
  have SK : Hid (rKind t = k3) := KS3.out
  have SN : Hid (rName t = n3) := KS5.out
  have hk3 : k3.size ≤ 140737488355328 := (lies_flat HLV3.out).2.2
  have hn3 : n3.size ≤ 140737488355328 := (lies_flat HLV5.out).2.2
  have hp3 : p3.size ≤ 140737488355328 := (lies_flat HLV6.out).2.2
  have H06 := Lib.hid (H.out.later hbw)
  obtain ⟨x0, x1, x2, x3, x4, x5⟩ := BK.out.six
  obtain ⟨y0, y1, y2, y3, y4, y5⟩ := BN.out.six
  obtain ⟨z0, z1, z2, z3, z4, z5⟩ := BX6.out.six
  have SP : Hid (rSpace t = rSpaceD (findR kSpace (rMeta t).map)) := rfl
  have KS6' : Hid (((findR kSpace (rMeta t).map).getD T.nil).str = p3) := KS6
  clear hh3 hh4 hh5 hbw KS6 KS3 KS5 HLV3 HLV4 HLV5 HLV6 BX3 BX4 BX5 HV3 HV4 HV5 HV6 HB3 HB4 HB5 HB6
  have EG : (findR kSpace (rMeta t).map) = (findR kSpace (((findR kMeta t.map).getD T.nil)).map) := rfl
  rw [EG] at SP KS6'
  clear EG
  generalize findR kSpace (((findR kMeta t.map).getD T.nil)).map = go at *
  go_upto_region 9 with fail
  have hb7 := (Below.refl v6.heap.size v6).alloc (Nat.le_refl _) (.cells #[.string k3, .string p3, .string n3] 29)
  obtain ⟨j0, j1, j2⟩ := Box3.new v6 #[.string k3, .string p3, .string n3] 29 _ _ _ rfl
  have jt := Thaw.new v6 #[.string k3, .string p3, .string n3] 29
  have hz7 : v6.heap.size < (v6.alloc (.cells #[.string k3, .string p3, .string n3] 29)).heap.size := by simp
  clear x0 x1 x2 x3 x4 x5 y0 y1 y2 y3 y4 y5 z0 z1 z2 z3 z4 z5
  generalize v6.alloc (.cells #[.string k3, .string p3, .string n3] 29) = v7 at *
  have HB7 := Lib.hid hb7
  have J0 := Lib.hid j0
  have J1 := Lib.hid j1
  have J2 := Lib.hid j2
  have jf := jt 1
  go_upto_if 48 with fail
  go_cut [12, 37, 35, 39, 47, 48, 49] (fun p12 p37 p35 p39 p47 p48 p49 wx => IdAt v6 k3 (rSpace t) n3 wx)
  case first =>
    cases go with
    | none =>
      have FA : IdAt v6 k3 (rSpace t) n3 (v7.setCell ⟨v6.heap.size, 1, none⟩ (.string kDefault)) := ⟨by
          rw [World.cell?_setCell_other _ _ _ _ (by intro e; simp at e)]
          exact J0.out, by
          rw [SP.out]
          exact World.cell?_setCell_same _ _ _ J1.out, by
          rw [World.cell?_setCell_other _ _ _ _ (by intro e; simp at e)]
          exact J2.out, HB7.out.setCell (Nat.le_refl _) _, by rw [World.size_setCell]; exact hz7, by rw [SP.out]; decide⟩
      have FH := Lib.hid FA
      clear FA hb7
      go_wp2_with fail
      go_meet
      case rel => exact FH.out
    | some u =>
      have FA : IdAt v6 k3 (rSpace t) n3 v7 := ⟨J0.out, by
          rw [SP.out]
          show _ = some (Value.string u.str)
          rw [show u.str = p3 from KS6'.out]
          exact J1.out, J2.out, HB7.out, hz7, by
          rw [SP.out]
          show u.str.size ≤ _
          rw [show u.str = p3 from KS6'.out]
          exact hp3⟩
      have FH := Lib.hid FA
      clear FA hb7
      go_wp2_with fail
      go_meet
      case rel => exact FH.out
  case rest =>
    obtain ⟨u, rfl⟩ : ∃ u : World, u = wc := ⟨_, rfl⟩
    obtain ⟨i0, i1, i2, hbu, hzu, hps⟩ := hcut
    obtain ⟨ss, hss⟩ : ∃ z, z = rSpace t := ⟨_, rfl⟩
    rw [← hss] at i1 hps OF1
    have B03u := Lib.hid (B03.out.later hbu (by omega))
    have B13u := Lib.hid (B13.out.later hbu (by omega))
    have T13u := Lib.hid (T13.out.later hbu (by omega))
    have HBU := Lib.hid (bstep HB6'.out hbu HB6'.out.size)
    have H0u := Lib.hid (H06.out.later hbu)
    have hzv := hbu.size
    rw [SK.out, SN.out] at OF1
    have RI := Lib.hid (r12Right_any k3 ss n3 hk3 hps hn3 u)
    clear hb7 j0 j1 j2 jt jf hbu hss SK SN SP KS6' J0 J1 J2 HB7
    cases hrt : rightO k3 ss n3 with
    | false =>
      rw [hrt] at RI OF1
      have OF2 : Hid (rofO t = objZ 26) := OF1.out
      clear hrt OF1
      go_upto_region 12 with (go_at_call 17; refine RI.out.mono ?_; rintro e w8 ⟨rfl, hb8⟩; have HB8 := Lib.hid hb8; clear hb8)
      have hz8 := HB8.out.size
      have B18 := Lib.hid (B13u.out.later HB8.out (by omega))
      obtain ⟨z0, z1, z2, z3, z4, z5, z6, z7, z8⟩ := B18.out.nine
      obtain ⟨f0, f1, f2, f3, f4, f5, f6, f7, f8⟩ := (T13u.out.later HB8.out (by omega)).nine
      clear i0 i1 i2
      go_wp2_with fail
      refine ret_cells_tmp w8 (w.heap.size + 1) [.string ⟨#[]⟩, .string ⟨#[]⟩, .string ⟨#[]⟩, .int .i64 0, .bool false, .int .i64 0, .string ⟨#[]⟩, .slice none 0 0, .slice none 0 0] rfl Tryd.results9 rfl rfl DD.out HU.out Tryd.sizeO (fun i hi => B18.out.cells rfl i hi) ?_
      have hbf := setRow_below (w.heap.size + 1) (by omega) [.string ⟨#[]⟩, .string ⟨#[]⟩, .string ⟨#[]⟩, .int .i64 0, .bool false, .int .i64 0, .string ⟨#[]⟩, .slice none 0 0, .slice none 0 0] w8 0 (bstep HBU.out HB8.out HBU.out.size)
      rw [OF2.out]
      exact ⟨0, false, 0, ⟨#[]⟩, none, 0, 0, none, 0, 0, rfl, nil_lies _ _, hbf⟩
    | true =>
      rw [hrt] at RI OF1
      clear hrt
      by_cases hrel : k3 = kRelease
      · have OF2 : Hid (rofO t = objZ 26) := OF1.out.trans (if_pos (by rw [decide_eq_true hrel]; rfl))
        have hq : (k3.toList == [82, 101, 108, 101, 97, 115, 101]) = true := by rw [str_is, hrel]; exact decide_eq_true rfl
        clear hrel OF1
        go_upto_region 12 with (go_at_call 17; refine RI.out.mono ?_; rintro e w8 ⟨rfl, hb8⟩; have HB8 := Lib.hid hb8; have i0 := cells_frame hb8 i0; clear hb8)
        have hz8 := HB8.out.size
        have B18 := Lib.hid (B13u.out.later HB8.out (by omega))
        obtain ⟨z0, z1, z2, z3, z4, z5, z6, z7, z8⟩ := B18.out.nine
        obtain ⟨f0, f1, f2, f3, f4, f5, f6, f7, f8⟩ := (T13u.out.later HB8.out (by omega)).nine
        go_wp2_with fail
        refine ret_cells_tmp w8 (w.heap.size + 1) [.string ⟨#[]⟩, .string ⟨#[]⟩, .string ⟨#[]⟩, .int .i64 0, .bool false, .int .i64 0, .string ⟨#[]⟩, .slice none 0 0, .slice none 0 0] rfl Tryd.results9 rfl rfl DD.out HU.out Tryd.sizeO (fun i hi => B18.out.cells rfl i hi) ?_
        have hbf := setRow_below (w.heap.size + 1) (by omega) [.string ⟨#[]⟩, .string ⟨#[]⟩, .string ⟨#[]⟩, .int .i64 0, .bool false, .int .i64 0, .string ⟨#[]⟩, .slice none 0 0, .slice none 0 0] w8 0 (bstep HBU.out HB8.out HBU.out.size)
        rw [OF2.out]
        exact ⟨0, false, 0, ⟨#[]⟩, none, 0, 0, none, 0, 0, rfl, nil_lies _ _, hbf⟩
      · have OF2 : Hid (rofO t = ⟨k3, ss, n3, t, 0⟩) := OF1.out.trans (if_neg (by rw [decide_eq_false hrel]; simp))
        have hq : (k3.toList == [82, 101, 108, 101, 97, 115, 101]) = false := by rw [str_is]; exact decide_eq_false (fun e => hrel (data_inj e))
        clear hrel OF1
        go_upto_region 13 with (go_at_call 17; refine RI.out.mono ?_; rintro e w8 ⟨rfl, hb8⟩; have HB8 := Lib.hid hb8; have i0' := cells_frame hb8 i0; have i1' := cells_frame hb8 i1; have i2' := cells_frame hb8 i2; clear hb8)
        have hz8 := HB8.out.size
        have B18 := Lib.hid (B13u.out.later HB8.out (by omega))
        obtain ⟨x0, x1, x2, x3, x4, x5⟩ := (B03u.out.later HB8.out (by omega)).six
        obtain ⟨z0, z1, z2, z3, z4, z5, z6, z7, z8⟩ := B18.out.nine
        obtain ⟨f0, f1, f2, f3, f4, f5, f6, f7, f8⟩ := (T13u.out.later HB8.out (by omega)).nine
        have H08 := Lib.hid (H0u.out.later HB8.out)
        go_wp2_with fail
        refine ret_cells_tmp w8 (w.heap.size + 1) [.string k3, .string ss, .string n3, .int .i64 c0, .bool c1, .int .i64 c2, .string c3, .slice c4 c4l c4c, .slice c5 c5l c5c] rfl Tryd.results9 rfl rfl DD.out HU.out Tryd.sizeO (fun i hi => B18.out.cells rfl i hi) ?_
        have hbf := setRow_below (w.heap.size + 1) (by omega) [.string k3, .string ss, .string n3, .int .i64 c0, .bool c1, .int .i64 c2, .string c3, .slice c4 c4l c4c, .slice c5 c5l c5c] w8 0 (bstep HBU.out HB8.out HBU.out.size)
        have hlf : Lies (setRow w8 (w.heap.size + 1) 0 [.string k3, .string ss, .string n3, .int .i64 c0, .bool c1, .int .i64 c2, .string c3, .slice c4 c4l c4c, .slice c5 c5l c5c]) (fun _ => True) t #[.int .i64 c0, .bool c1, .int .i64 c2, .string c3, .slice c4 c4l c4c, .slice c5 c5l c5c] := ((H.out.bound).later (bstep HW.out hbf HW.out.size)).weaken fun _ _ => trivial
        rw [OF2.out]
        exact ⟨c0, c1, c2, c3, c4, c4l, c4c, c5, c5l, c5c, rfl, hlf, hbf⟩

end Go.Proofs.YtbmlmcoepmbelaaDoor
