/-
  Package object's Of.
-/
import Derived.Test.YtbmlmcoepmbelaaDoorOverPM
import Derived.Test.YtbmlmcoepmbelaaDoorTCheck
import Derived.Test.YtbmlmcoepmbelaaDoorCloneP
import Derived.Test.YtbmlmcoepmbelaaDoorSpecsE
set_option linter.unusedVariables false
set_option linter.unusedSimpArgs false
namespace Go.Proofs.YtbmlmcoepmbelaaDoor
open Go.RowKit Go.Sort

/-- Nine cells of a box. -/
def Box9 (w : World) (g : Nat) (cs : Array Value) : Prop := ∀ j, j < 9 → w.cell? ⟨g, j, none⟩ = cs[j]?
theorem Box9.later {w w' : World} {g : Nat} {cs : Array Value} {B : Nat} (h : Box9 w g cs) (hb : Below B w w') (hg : g < B) : Box9 w' g cs := fun j hj => (hb.cell (p := ⟨g, j, none⟩) hg).trans (h j hj)
theorem Box9.nine {w : World} {g : Nat} {c0 c1 c2 c3 c4 c5 c6 c7 c8 : Value} (h : Box9 w g #[c0, c1, c2, c3, c4, c5, c6, c7, c8]) : w.cell? ⟨g, 0, none⟩ = some c0 ∧ w.cell? ⟨g, 1, none⟩ = some c1 ∧ w.cell? ⟨g, 2, none⟩ = some c2 ∧ w.cell? ⟨g, 3, none⟩ = some c3 ∧ w.cell? ⟨g, 4, none⟩ = some c4 ∧ w.cell? ⟨g, 5, none⟩ = some c5 ∧ w.cell? ⟨g, 6, none⟩ = some c6 ∧ w.cell? ⟨g, 7, none⟩ = some c7 ∧ w.cell? ⟨g, 8, none⟩ = some c8 :=
  ⟨h 0 (by omega), h 1 (by omega), h 2 (by omega), h 3 (by omega), h 4 (by omega), h 5 (by omega), h 6 (by omega), h 7 (by omega), h 8 (by omega)⟩
theorem Box9.new (w : World) (cs : Array Value) (t : TypeId) : Box9 (w.alloc (.cells cs t)) w.heap.size cs := fun j _ => by rw [World.cell?_alloc_new]
theorem Box9.cells {w : World} {g : Nat} {cs : Array Value} (h : Box9 w g cs) (hs : cs.size = 9) : ∀ i, i < 9 → ∃ u, w.cell? ⟨g, i, none⟩ = some u := fun i hi => ⟨_, (h i hi).trans (Array.getElem?_eq_getElem (by rw [hs]; exact hi))⟩
theorem Thaw.nine {w : World} {g : Nat} (h : Thaw w g) : w.frozen? ⟨g, 0, none⟩ = false ∧ w.frozen? ⟨g, 1, none⟩ = false ∧ w.frozen? ⟨g, 2, none⟩ = false ∧ w.frozen? ⟨g, 3, none⟩ = false ∧ w.frozen? ⟨g, 4, none⟩ = false ∧ w.frozen? ⟨g, 5, none⟩ = false ∧ w.frozen? ⟨g, 6, none⟩ = false ∧ w.frozen? ⟨g, 7, none⟩ = false ∧ w.frozen? ⟨g, 8, none⟩ = false :=
  ⟨h 0, h 1, h 2, h 3, h 4, h 5, h 6, h 7, h 8⟩
theorem Box3.new (w : World) (cs : Array Value) (t : TypeId) (c0 c1 c2 : Value) (h : cs = #[c0, c1, c2]) : (w.alloc (.cells cs t)).cell? ⟨w.heap.size, 0, none⟩ = some c0 ∧ (w.alloc (.cells cs t)).cell? ⟨w.heap.size, 1, none⟩ = some c1 ∧ (w.alloc (.cells cs t)).cell? ⟨w.heap.size, 2, none⟩ = some c2 := by
  subst h
  exact ⟨by rw [World.cell?_alloc_new]; rfl, by rw [World.cell?_alloc_new]; rfl, by rw [World.cell?_alloc_new]; rfl⟩
theorem Tryd.structO : ∃ d, Tryd.prog.underlying 31 = some d ∧ (match d with | .struct _ | .array _ _ => true | _ => false) = true := ⟨_, Tryd.underlying31, rfl⟩
theorem Tryd.sizeO : (Tryd.prog.info? 31).map (·.size) = some 9 := by kernel_rfl

/-- An object's ID, its body, and what is wrong. -/
structure ObjR where
  k : ByteArray
  p : ByteArray
  n : ByteArray
  u : T
  c : Int
def objZ (c : Int) : ObjR := ⟨⟨#[]⟩, ⟨#[]⟩, ⟨#[]⟩, T.nil, c⟩
def badO (t : T) : Bool := decide (kindO t = kRelease) || !rightO (kindO t) (spaceO t) (nameO t)
/-- The object that a document is. -/
def ofO (t : T) : ObjR := if t.check ≠ 0 then objZ t.check else if badO t = true then objZ 26 else ⟨kindO t, spaceO t, nameO t, t, 0⟩
def OfTo (w : World) (r : ObjR) (e : Ending) (w' : World) : Prop := ∃ (q0 : Int) (q1 : Bool) (q2 : Int) (q3 : ByteArray) (q4 : Option Addr) (q4l q4c : Nat) (q5 : Option Addr) (q5l q5c : Nat), e = .returned (.tuple #[.agg #[.string r.k, .string r.p, .string r.n, .int .i64 q0, .bool q1, .int .i64 q2, .string q3, .slice q4 q4l q4c, .slice q5 q5l q5c], .int .i64 r.c]) ∧ Lies w' (fun b => w.heap.size ≤ b) r.u #[.int .i64 q0, .bool q1, .int .i64 q2, .string q3, .slice q4 q4l q4c, .slice q5 q5l q5c] ∧ Below w.heap.size w w'

set_option maxRecDepth 100000 in
set_option maxHeartbeats 4000000 in
theorem oOf_any {w0 : World} {R : Nat → Prop} {t : T} {cs : Array Value} (h : Lies w0 R t cs) (hsz : t.size ≤ 1000000) (w : World) (hw : Below w0.heap.size w0 w) :
    Calls Tryd.prog 8 #[.agg cs] w (OfTo w (ofO t)) := by
  obtain ⟨dd, hu, hdd⟩ := Tryd.structO
  have DD := Lib.hid hdd
  have HU := Lib.hid hu
  have H := Lib.hid h
  have HW := Lib.hid hw
  obtain ⟨sk, sp, sn⟩ := named_sizes h
  have SZ : Hid ((kindO t).size ≤ 140737488355328 ∧ (spaceO t).size ≤ 140737488355328 ∧ (nameO t).size ≤ 140737488355328) := ⟨sk, sp, sn⟩
  have CK := Lib.hid (fun w' hw' => tCheck_any h w' hw' (by omega))
  obtain ⟨c0, c1, c2, c3, c4, c4l, c4c, c5, c5l, c5c, rfl⟩ := h.six
  clear hdd hu h hw sk sp sn
  have e1 : (w.alloc (.cells #[.int .i64 c0, .bool c1, .int .i64 c2, .string c3, .slice c4 c4l c4c, .slice c5 c5l c5c] 25)).heap.size = w.heap.size + 1 := by simp
  have hb2 : Below w.heap.size w ((w.alloc (.cells #[.int .i64 c0, .bool c1, .int .i64 c2, .string c3, .slice c4 c4l c4c, .slice c5 c5l c5c] 25)).alloc (.cells #[.string ⟨#[]⟩, .string ⟨#[]⟩, .string ⟨#[]⟩, .int .i64 0, .bool false, .int .i64 0, .string ⟨#[]⟩, .slice none 0 0, .slice none 0 0] 31)) := ((Below.refl _ _).alloc (Nat.le_refl _) _).alloc (by simp) _
  have b0 : Box6 ((w.alloc (.cells #[.int .i64 c0, .bool c1, .int .i64 c2, .string c3, .slice c4 c4l c4c, .slice c5 c5l c5c] 25)).alloc (.cells #[.string ⟨#[]⟩, .string ⟨#[]⟩, .string ⟨#[]⟩, .int .i64 0, .bool false, .int .i64 0, .string ⟨#[]⟩, .slice none 0 0, .slice none 0 0] 31)) w.heap.size #[.int .i64 c0, .bool c1, .int .i64 c2, .string c3, .slice c4 c4l c4c, .slice c5 c5l c5c] := (Box6.new w #[.int .i64 c0, .bool c1, .int .i64 c2, .string c3, .slice c4 c4l c4c, .slice c5 c5l c5c] 25).later ((Below.refl (w.heap.size + 1) _).alloc (by simp) _) (by omega)
  have b1 := Box9.new (w.alloc (.cells #[.int .i64 c0, .bool c1, .int .i64 c2, .string c3, .slice c4 c4l c4c, .slice c5 c5l c5c] 25)) #[.string ⟨#[]⟩, .string ⟨#[]⟩, .string ⟨#[]⟩, .int .i64 0, .bool false, .int .i64 0, .string ⟨#[]⟩, .slice none 0 0, .slice none 0 0] 31
  have t1 := Thaw.new (w.alloc (.cells #[.int .i64 c0, .bool c1, .int .i64 c2, .string c3, .slice c4 c4l c4c, .slice c5 c5l c5c] 25)) #[.string ⟨#[]⟩, .string ⟨#[]⟩, .string ⟨#[]⟩, .int .i64 0, .bool false, .int .i64 0, .string ⟨#[]⟩, .slice none 0 0, .slice none 0 0] 31
  rw [e1] at b1 t1
  have es : ((w.alloc (.cells #[.int .i64 c0, .bool c1, .int .i64 c2, .string c3, .slice c4 c4l c4c, .slice c5 c5l c5c] 25)).alloc (.cells #[.string ⟨#[]⟩, .string ⟨#[]⟩, .string ⟨#[]⟩, .int .i64 0, .bool false, .int .i64 0, .string ⟨#[]⟩, .slice none 0 0, .slice none 0 0] 31)).heap.size = w.heap.size + 2 := by simp
  have HB2 := Lib.hid hb2
  have B0 := Lib.hid b0
  have B1 := Lib.hid b1
  have T1 := Lib.hid t1
  have ES := Lib.hid es
  obtain ⟨x0, x1, x2, x3, x4, x5⟩ := b0.six
  clear e1 hb2 b0 b1 t1 es
  go_enter Tryd.func8, Tryd.ntmps8
  go_upto_region 1 with fail
  generalize ((w.alloc (.cells #[.int .i64 c0, .bool c1, .int .i64 c2, .string c3, .slice c4 c4l c4c, .slice c5 c5l c5c] 25)).alloc (.cells #[.string ⟨#[]⟩, .string ⟨#[]⟩, .string ⟨#[]⟩, .int .i64 0, .bool false, .int .i64 0, .string ⟨#[]⟩, .slice none 0 0, .slice none 0 0] 31)) = v at *
  have hvs := Nat.le_of_eq ES.out.symm
  have CKV := Lib.hid (CK.out v (bstep HW.out HB2.out HW.out.size))
  have OFE : Hid (ofO t = if t.check ≠ 0 then objZ t.check else if badO t = true then objZ 26 else ⟨kindO t, spaceO t, nameO t, t, 0⟩) := rfl
  generalize t.check = ck at *
  go_upto_region 2 with (go_at_call 24; refine CKV.out.mono ?_; rintro e w3 ⟨rfl, hb3⟩; have HB3 := Lib.hid hb3; clear hb3)
  have hz3 := HB3.out.size
  have HB13 := Lib.hid (bstep HB2.out HB3.out HB2.out.size)
  have B13 := Lib.hid (B1.out.later HB3.out (by omega))
  have T13 := Lib.hid (T1.out.later HB3.out (by omega))
  clear x0 x1 x2 x3 x4 x5
  by_cases hc : ck = 0
  case neg =>
    have OF1 : Hid (ofO t = objZ ck) := OFE.out.trans (if_pos hc)
    have hq : (ck != 0) = true := by simp [hc]
    obtain ⟨z0, z1, z2, z3, z4, z5, z6, z7, z8⟩ := B13.out.nine
    obtain ⟨f0, f1, f2, f3, f4, f5, f6, f7, f8⟩ := T13.out.nine
    clear hc OFE
    go_wp2_with fail
    refine ret_cells_tmp w3 (w.heap.size + 1) [.string ⟨#[]⟩, .string ⟨#[]⟩, .string ⟨#[]⟩, .int .i64 0, .bool false, .int .i64 0, .string ⟨#[]⟩, .slice none 0 0, .slice none 0 0] rfl Tryd.results8 rfl rfl DD.out HU.out Tryd.sizeO (fun i hi => B13.out.cells rfl i hi) ?_
    have hbf := setRow_below (w.heap.size + 1) (by omega) [.string ⟨#[]⟩, .string ⟨#[]⟩, .string ⟨#[]⟩, .int .i64 0, .bool false, .int .i64 0, .string ⟨#[]⟩, .slice none 0 0, .slice none 0 0] w3 0 HB13.out
    rw [OF1.out]
    exact ⟨0, false, 0, ⟨#[]⟩, none, 0, 0, none, 0, 0, rfl, nil_lies _ _, hbf⟩
  case pos =>
    subst hc
    have OF1 : Hid (ofO t = if badO t = true then objZ 26 else ⟨kindO t, spaceO t, nameO t, t, 0⟩) := OFE.out.trans (if_neg (by simp))
    have BDE : Hid (badO t = (decide (kindO t = kRelease) || !rightO (kindO t) (spaceO t) (nameO t))) := rfl
    have NM := Lib.hid (onamed_any H.out w3 (bstep HW.out HB13.out HW.out.size))
    clear OFE
    generalize kindO t = kk at *
    generalize spaceO t = ss at *
    generalize nameO t = nn at *
    obtain ⟨x0, x1, x2, x3, x4, x5⟩ := (B0.out.later HB3.out (by omega)).six
    go_upto_region 5 with (go_at_call 25; refine NM.out.mono ?_; rintro e w4 ⟨rfl, hb4⟩; have HB4 := Lib.hid hb4; clear hb4)
    have hb5 := HB4.out.alloc HB4.out.size (.cells #[.string kk, .string ss, .string nn] 29)
    obtain ⟨i0, i1, i2⟩ := Box3.new w4 #[.string kk, .string ss, .string nn] 29 _ _ _ rfl
    have hs5 : w4.heap.size < (w4.alloc (.cells #[.string kk, .string ss, .string nn] 29)).heap.size := by simp
    clear x0 x1 x2 x3 x4 x5
    generalize w4.alloc (.cells #[.string kk, .string ss, .string nn] 29) = v5 at *
    have hz5 := hb5.size
    have B05 := Lib.hid ((B0.out.later HB3.out (by omega)).later hb5 (by omega))
    have B15 := Lib.hid (B13.out.later hb5 (by omega))
    have T15 := Lib.hid (T13.out.later hb5 (by omega))
    have HB5 := Lib.hid (bstep HB13.out hb5 HB13.out.size)
    clear hb5
    obtain ⟨sk, sp, sn⟩ := SZ.out
    have RI := Lib.hid (oRight_any kk ss nn sk sp sn v5)
    clear sk sp sn
    obtain ⟨bb, hbb⟩ : ∃ z, z = badO t := ⟨_, rfl⟩
    rw [← hbb] at BDE OF1
    clear hbb
    by_cases hrel : kk = kRelease
    · have hbad : bb = true := by rw [BDE.out, decide_eq_true hrel]; rfl
      rw [hbad, if_pos rfl] at OF1
      have hq : (kk.toList == [82, 101, 108, 101, 97, 115, 101]) = true := by rw [str_is, hrel]; exact decide_eq_true rfl
      obtain ⟨z0, z1, z2, z3, z4, z5, z6, z7, z8⟩ := B15.out.nine
      obtain ⟨f0, f1, f2, f3, f4, f5, f6, f7, f8⟩ := T15.out.nine
      clear hrel hbad BDE RI
      go_wp2_with fail
      refine ret_cells_tmp v5 (w.heap.size + 1) [.string ⟨#[]⟩, .string ⟨#[]⟩, .string ⟨#[]⟩, .int .i64 0, .bool false, .int .i64 0, .string ⟨#[]⟩, .slice none 0 0, .slice none 0 0] rfl Tryd.results8 rfl rfl DD.out HU.out Tryd.sizeO (fun i hi => B15.out.cells rfl i hi) ?_
      have hbf := setRow_below (w.heap.size + 1) (by omega) [.string ⟨#[]⟩, .string ⟨#[]⟩, .string ⟨#[]⟩, .int .i64 0, .bool false, .int .i64 0, .string ⟨#[]⟩, .slice none 0 0, .slice none 0 0] v5 0 HB5.out
      rw [OF1.out]
      exact ⟨0, false, 0, ⟨#[]⟩, none, 0, 0, none, 0, 0, rfl, nil_lies _ _, hbf⟩
    · have hq : (kk.toList == [82, 101, 108, 101, 97, 115, 101]) = false := by rw [str_is]; exact decide_eq_false (fun e => hrel (data_inj e))
      cases hrt : rightO kk ss nn with
      | false =>
        have hbad : bb = true := by rw [BDE.out, hrt]; simp
        rw [hbad, if_pos rfl] at OF1
        rw [hrt] at RI
        clear hrel hrt hbad BDE
        go_upto_region 6 with (go_at_call 16; refine RI.out.mono ?_; rintro e w6 ⟨rfl, hb6⟩; have HB6 := Lib.hid hb6; clear hb6)
        have hz6 := HB6.out.size
        have B16 := Lib.hid (B15.out.later HB6.out (by omega))
        obtain ⟨z0, z1, z2, z3, z4, z5, z6, z7, z8⟩ := B16.out.nine
        obtain ⟨f0, f1, f2, f3, f4, f5, f6, f7, f8⟩ := (T15.out.later HB6.out (by omega)).nine
        go_wp2_with fail
        refine ret_cells_tmp w6 (w.heap.size + 1) [.string ⟨#[]⟩, .string ⟨#[]⟩, .string ⟨#[]⟩, .int .i64 0, .bool false, .int .i64 0, .string ⟨#[]⟩, .slice none 0 0, .slice none 0 0] rfl Tryd.results8 rfl rfl DD.out HU.out Tryd.sizeO (fun i hi => B16.out.cells rfl i hi) ?_
        have hbf := setRow_below (w.heap.size + 1) (by omega) [.string ⟨#[]⟩, .string ⟨#[]⟩, .string ⟨#[]⟩, .int .i64 0, .bool false, .int .i64 0, .string ⟨#[]⟩, .slice none 0 0, .slice none 0 0] w6 0 (bstep HB5.out HB6.out HB5.out.size)
        rw [OF1.out]
        exact ⟨0, false, 0, ⟨#[]⟩, none, 0, 0, none, 0, 0, rfl, nil_lies _ _, hbf⟩
      | true =>
        have hbad : bb = false := by rw [BDE.out, hrt, decide_eq_false hrel]; rfl
        rw [hbad, if_neg (by simp)] at OF1
        rw [hrt] at RI
        clear hrel hrt hbad BDE
        go_upto_region 7 with (go_at_call 16; refine RI.out.mono ?_; rintro e w6 ⟨rfl, hb6⟩; have HB6 := Lib.hid hb6; clear hb6)
        have hz6 := HB6.out.size
        have HB56 := Lib.hid (bstep HB5.out HB6.out HB5.out.size)
        have B16 := Lib.hid (B15.out.later HB6.out (by omega))
        have T16 := Lib.hid (T15.out.later HB6.out (by omega))
        have CL := Lib.hid (fun w' (hw' : Below w6.heap.size w6 w') => tClone_any H.out w' (bstep (bstep HW.out HB56.out HW.out.size) hw' (bstep HW.out HB56.out HW.out.size).size))
        obtain ⟨x0, x1, x2, x3, x4, x5⟩ := (B05.out.later HB6.out (by omega)).six
        have j0 := cells_frame HB6.out i0
        have j1 := cells_frame HB6.out i1
        have j2 := cells_frame HB6.out i2
        clear i0 i1 i2
        refine wp_region_specs4 w6 4 (fun i => match i with | 0 => 23 | 1 => 24 | 2 => 25 | 3 => 26 | 4 => 3 | _ => 0) (fun i x wx => match i with | 0 => x = .agg #[.string kk, .string ss, .string nn] | 1 => x = .agg #[.int .i64 c0, .bool c1, .int .i64 c2, .string c3, .slice c4 c4l c4c, .slice c5 c5l c5c] | 2 => ∃ (f0 : Int) (f1 : Bool) (f2 : Int) (f3 : ByteArray) (f4 : Option Addr) (f4l f4c : Nat) (f5 : Option Addr) (f5l f5c : Nat), x = .agg #[.int .i64 f0, .bool f1, .int .i64 f2, .string f3, .slice f4 f4l f4c, .slice f5 f5l f5c] ∧ Lies wx (fun b => w6.heap.size ≤ b) t #[.int .i64 f0, .bool f1, .int .i64 f2, .string f3, .slice f4 f4l f4c, .slice f5 f5l f5c] | 3 => ∃ (f0 : Int) (f1 : Bool) (f2 : Int) (f3 : ByteArray) (f4 : Option Addr) (f4l f4c : Nat) (f5 : Option Addr) (f5l f5c : Nat), x = .agg #[.string kk, .string ss, .string nn, .int .i64 f0, .bool f1, .int .i64 f2, .string f3, .slice f4 f4l f4c, .slice f5 f5l f5c] ∧ Lies wx (fun b => w6.heap.size ≤ b) t #[.int .i64 f0, .bool f1, .int .i64 f2, .string f3, .slice f4 f4l f4c, .slice f5 f5l f5c] | _ => True) (fun i x => match i with | 0 => x = .agg #[.string kk, .string ss, .string nn] | 1 => x = .agg #[.int .i64 c0, .bool c1, .int .i64 c2, .string c3, .slice c4 c4l c4c, .slice c5 c5l c5c] | 2 => ∃ (f0 : Int) (f1 : Bool) (f2 : Int) (f3 : ByteArray) (f4 : Option Addr) (f4l f4c : Nat) (f5 : Option Addr) (f5l f5c : Nat), x = .agg #[.int .i64 f0, .bool f1, .int .i64 f2, .string f3, .slice f4 f4l f4c, .slice f5 f5l f5c] | 3 => True | _ => True) (fun wx => ∃ (f0 : Int) (f1 : Bool) (f2 : Int) (f3 : ByteArray) (f4 : Option Addr) (f4l f4c : Nat) (f5 : Option Addr) (f5l f5c : Nat) (wb : World), Below w6.heap.size w6 wb ∧ Lies wb (fun b => w6.heap.size ≤ b) t #[.int .i64 f0, .bool f1, .int .i64 f2, .string f3, .slice f4 f4l f4c, .slice f5 f5l f5c] ∧ wx = setRow wb (w.heap.size + 1) 0 [.string kk, .string ss, .string nn, .int .i64 f0, .bool f1, .int .i64 f2, .string f3, .slice f4 f4l f4c, .slice f5 f5l f5c]) (fun x wx => x = .int .i64 0 ∧ (∃ (f0 : Int) (f1 : Bool) (f2 : Int) (f3 : ByteArray) (f4 : Option Addr) (f4l f4c : Nat) (f5 : Option Addr) (f5l f5c : Nat) (wb : World), Below w6.heap.size w6 wb ∧ Lies wb (fun b => w6.heap.size ≤ b) t #[.int .i64 f0, .bool f1, .int .i64 f2, .string f3, .slice f4 f4l f4c, .slice f5 f5l f5c] ∧ wx = setRow wb (w.heap.size + 1) 0 [.string kk, .string ss, .string nn, .int .i64 f0, .bool f1, .int .i64 f2, .string f3, .slice f4 f4l f4c, .slice f5 f5l f5c])) (by kernel_rfl) (by kernel_rfl) ?s1 (Below.refl _ _) ?s2 ?sv ?s3 ?s4 ?s4b ?s5
        case s1 => intro i hi; rcases (by omega : i = 0 ∨ i = 1 ∨ i = 2 ∨ i = 3 ∨ i = 4) with rfl | rfl | rfl | rfl | rfl <;> exact Nat.lt_of_lt_of_le (by decide : _ < 27) (Nat.le_refl 27)
        case s2 =>
          intro i x w1 w2 hb hU
          match i, hU with
          | 2, ⟨f0, f1, f2, f3, f4, f4l, f4c, f5, f5l, f5c, e, hl⟩ => exact ⟨f0, f1, f2, f3, f4, f4l, f4c, f5, f5l, f5c, e, hl.later hb⟩
          | 3, ⟨f0, f1, f2, f3, f4, f4l, f4c, f5, f5l, f5c, e, hl⟩ => exact ⟨f0, f1, f2, f3, f4, f4l, f4c, f5, f5l, f5c, e, hl.later hb⟩
          | 0, h | 1, h => exact h
          | (n + 4), _ => trivial
        case sv =>
          intro i x w1 hi hU
          match i, hU with
          | 2, ⟨f0, f1, f2, f3, f4, f4l, f4c, f5, f5l, f5c, e, _⟩ => exact ⟨f0, f1, f2, f3, f4, f4l, f4c, f5, f5l, f5c, e⟩
          | 3, _ => trivial
          | 0, h | 1, h => exact h
          | (n + 4), _ => trivial
        case s3 =>
          intro i o ac wb K' ho hi hA hB hdep hK
          have sv1 : ac.tmps[1]?.getD undef = .pointer (some ⟨w.heap.size, 0, none⟩) := hA.sl (t := 1) (by decide)
          have sv2 : ac.tmps[2]?.getD undef = .pointer (some ⟨w.heap.size + 1, 0, none⟩) := hA.sl (t := 2) (by decide)
          have sv5 : ac.tmps[5]?.getD undef = .pointer (some ⟨w4.heap.size, 0, none⟩) := hA.sl (t := 5) (by decide)
          have x0 := cells_frame hB x0
          have x1 := cells_frame hB x1
          have x2 := cells_frame hB x2
          have x3 := cells_frame hB x3
          have x4 := cells_frame hB x4
          have x5 := cells_frame hB x5
          have j0 := cells_frame hB j0
          have j1 := cells_frame hB j1
          have j2 := cells_frame hB j2
          rcases (by omega : i = 0 ∨ i = 1 ∨ i = 2 ∨ i = 3) with rfl | rfl | rfl | rfl
          · simp at ho
            subst ho
            clear hdep hA
            go_simp
            exact hK _ wb (Below.refl _ _) rfl
          · simp at ho
            subst ho
            clear hdep hA
            go_simp
            exact hK _ wb (Below.refl _ _) rfl
          · simp at ho
            subst ho
            have y1 : ac.tmps[24]?.getD undef = .agg #[.int .i64 c0, .bool c1, .int .i64 c2, .string c3, .slice c4 c4l c4c, .slice c5 c5l c5c] := hdep { on := 1, ground := .data } (by simp) rfl
            clear hdep hA
            go_simp
            refine (CL.out wb hB).mono ?_
            rintro e w7 ⟨es, rfl, hl, hb7⟩
            obtain ⟨f0, f1, f2, f3, f4, f4l, f4c, f5, f5l, f5c, rfl⟩ := hl.six
            exact hK _ w7 hb7 ⟨f0, f1, f2, f3, f4, f4l, f4c, f5, f5l, f5c, rfl, hl.weaken fun b hb => Nat.le_trans hB.size hb⟩
          · simp at ho
            subst ho
            have y0 : ac.tmps[23]?.getD undef = .agg #[.string kk, .string ss, .string nn] := hdep { on := 0, ground := .data } (by simp) rfl
            obtain ⟨y2f0, y2f1, y2f2, y2f3, y2f4, y2f4l, y2f4c, y2f5, y2f5l, y2f5c, y2, hly2⟩ := hdep { on := 2, ground := .data } (by simp) rfl
            have y2 : ac.tmps[25]?.getD undef = .agg #[.int .i64 y2f0, .bool y2f1, .int .i64 y2f2, .string y2f3, .slice y2f4 y2f4l y2f4c, .slice y2f5 y2f5l y2f5c] := y2
            clear hdep hA
            go_simp
            exact hK _ wb (Below.refl _ _) ⟨y2f0, y2f1, y2f2, y2f3, y2f4, y2f4l, y2f4c, y2f5, y2f5l, y2f5c, rfl, hly2⟩
        case s4 =>
          intro o ac wb K' ho hA hB hU hK
          have sv1 : ac.tmps[1]?.getD undef = .pointer (some ⟨w.heap.size, 0, none⟩) := hA.sl (t := 1) (by decide)
          have sv2 : ac.tmps[2]?.getD undef = .pointer (some ⟨w.heap.size + 1, 0, none⟩) := hA.sl (t := 2) (by decide)
          have sv5 : ac.tmps[5]?.getD undef = .pointer (some ⟨w4.heap.size, 0, none⟩) := hA.sl (t := 5) (by decide)
          have x0 := cells_frame hB x0
          have x1 := cells_frame hB x1
          have x2 := cells_frame hB x2
          have x3 := cells_frame hB x3
          have x4 := cells_frame hB x4
          have x5 := cells_frame hB x5
          have j0 := cells_frame hB j0
          have j1 := cells_frame hB j1
          have j2 := cells_frame hB j2
          simp at ho
          subst ho
          obtain ⟨y3f0, y3f1, y3f2, y3f3, y3f4, y3f4l, y3f4c, y3f5, y3f5l, y3f5c, y3, hly3⟩ := hU 3 (by omega)
          have y3 : ac.tmps[26]?.getD undef = .agg #[.string kk, .string ss, .string nn, .int .i64 y3f0, .bool y3f1, .int .i64 y3f2, .string y3f3, .slice y3f4 y3f4l y3f4c, .slice y3f5 y3f5l y3f5c] := y3
          clear hU hA
          obtain ⟨z0, z1, z2, z3, z4, z5, z6, z7, z8⟩ := (B16.out.later hB (by omega)).nine
          obtain ⟨f0, f1, f2, f3, f4, f5, f6, f7, f8⟩ := (T16.out.later hB (by omega)).nine
          go_simp
          exact hK _ ⟨y3f0, y3f1, y3f2, y3f3, y3f4, y3f4l, y3f4c, y3f5, y3f5l, y3f5c, wb, hB, hly3, rfl⟩
        case s4b =>
          intro o ac wb K' ho hA hVV hF hK
          have sv1 : ac.tmps[1]?.getD undef = .pointer (some ⟨w.heap.size, 0, none⟩) := hA.sl (t := 1) (by decide)
          have sv2 : ac.tmps[2]?.getD undef = .pointer (some ⟨w.heap.size + 1, 0, none⟩) := hA.sl (t := 2) (by decide)
          have sv5 : ac.tmps[5]?.getD undef = .pointer (some ⟨w4.heap.size, 0, none⟩) := hA.sl (t := 5) (by decide)
          simp at ho
          subst ho
          clear hVV hA
          go_simp
          exact hK _ _ ⟨rfl, hF⟩
        case s5 =>
          intro ac wn hA hVV hF
          have hs : slots 5 (fun i => match i with | 0 => 23 | 1 => 24 | 2 => 25 | 3 => 26 | 4 => 3 | _ => 0) = [23, 24, 25, 26, 3] := by rfl
          rw [hs] at hA
          have hac := hA.act (fun t ht => by
            have h8 : t = 23 ∨ t = 24 ∨ t = 25 ∨ t = 26 ∨ t = 3 := by simpa using ht
            rcases h8 with rfl | rfl | rfl | rfl | rfl <;> exact Nat.lt_of_lt_of_le (by decide : _ < 27) (Nat.le_refl 27))
          rw [List.foldl_cons, List.foldl_cons, List.foldl_cons, List.foldl_cons, List.foldl_cons, List.foldl_nil] at hac
          generalize sl ac 23 = x23 at hac
          generalize sl ac 24 = x24 at hac
          generalize sl ac 25 = x25 at hac
          generalize sl ac 26 = x26 at hac
          generalize sl ac 3 = x3 at hac hF
          clear hA hs hVV
          subst hac
          simp only [Act.put, List.setIfInBounds_toArray, List.set_cons_succ, List.set_cons_zero]
          obtain ⟨hx3, f0, f1, f2, f3, f4, f4l, f4c, f5, f5l, f5c, w7, hb7, hl7, rfl⟩ := hF
          have hx3' : x3 = .int .i64 0 := hx3
          subst hx3'
          have H7 := Lib.hid hb7
          have L7 := Lib.hid hl7
          have BR7 := Lib.hid (B16.out.later hb7 (by omega))
          have hz7 := hb7.size
          clear hb7 hl7
          generalize hWW : setRow w7 (w.heap.size + 1) 0 [.string kk, .string ss, .string nn, .int .i64 f0, .bool f1, .int .i64 f2, .string f3, .slice f4 f4l f4c, .slice f5 f5l f5c] = W8
          have HW8 := Lib.hid hWW.symm
          clear hWW
          go_wp2_with fail
          refine ret_cells_tmp w7 (w.heap.size + 1) [.string kk, .string ss, .string nn, .int .i64 f0, .bool f1, .int .i64 f2, .string f3, .slice f4 f4l f4c, .slice f5 f5l f5c] HW8.out Tryd.results8 rfl rfl DD.out HU.out Tryd.sizeO (fun i hi => BR7.out.cells rfl i hi) ?_
          have hbf := setRow_below (w.heap.size + 1) (by omega) [.string kk, .string ss, .string nn, .int .i64 f0, .bool f1, .int .i64 f2, .string f3, .slice f4 f4l f4c, .slice f5 f5l f5c] w7 0 (bstep HB56.out H7.out HB56.out.size)
          rw [OF1.out]
          exact ⟨f0, f1, f2, f3, f4, f4l, f4c, f5, f5l, f5c, rfl, (L7.out.keep (fun b hb => setRow_heap _ _ _ _ _ (by omega))).weaken (fun b hb => by omega), hbf⟩

end Go.Proofs.YtbmlmcoepmbelaaDoor
