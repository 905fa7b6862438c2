/-
  Package funcs' either: the one value or the other one.
-/
import Derived.Test.YthjdeckdklhphaaGreatDoorAwakeM
import Derived.Test.YthjdeckdklhphaaGreatDoorTruthM
import Derived.Test.YthjdeckdklhphaaGreatDoorCloneP
import Derived.Deep.DeepCutAuto
import Derived.Test.YthjdeckdklhphaaGreatDoorFnLaidM
import Derived.Test.YthjdeckdklhphaaGreatDoorFnAnsw
import Derived.Test.YthjdeckdklhphaaGreatDoorSpecsEM
set_option linter.unusedVariables false
set_option linter.unusedSimpArgs false
namespace Go.Proofs.YthjdeckdklhphaaGreatDoor
open Go.RowKit

/-- What counts as true. -/
def trT (t : T) : Bool := countsB t.kind t.truth t.num t.str t.list.length t.map.length

set_option maxRecDepth 100000 in
set_option maxHeartbeats 2000000 in
theorem feither_any {w0 : World} {R1 R2 R3 : Nat → Prop} {t y z : T} {cs ds es : Array Value} (h1 : Lies w0 R1 t cs) (h2 : Lies w0 R2 y ds) (h3 : Lies w0 R3 z es) (w : World) (hw : Below w0.heap.size w0 w) :
    Calls Tryz.prog 35 #[.agg cs, .agg ds, .agg es] w (Cloned w (if trT t = true then y else z)) := by
  obtain ⟨c0, c1, c2, c3, c4, c4l, c4c, c5, c5l, c5c, rfl⟩ := h1.six
  obtain ⟨d0, d1, d2, d3, d4, d4l, d4c, d5, d5l, d5c, rfl⟩ := h2.six
  obtain ⟨e0, e1, e2, e3, e4, e4l, e4c, e5, e5l, e5c, rfl⟩ := h3.six
  have hct : countsB c0 c1 c2 c3 c4l c5l = trT t := by cases h1; rfl
  have HCT := Lib.hid hct
  obtain ⟨r, hr⟩ : ∃ r, r = (if trT t = true then y else z) := ⟨_, rfl⟩
  rw [← hr]
  have H2 := Lib.hid h2
  have H3 := Lib.hid h3
  obtain ⟨dd, hu, hdd⟩ := Tryz.structV
  have DD := Lib.hid hdd
  have HU := Lib.hid hu
  have hb4 : Below w.heap.size w ((((w.alloc (.cells #[.int .i64 c0, .bool c1, .int .i64 c2, .string c3, .slice c4 c4l c4c, .slice c5 c5l c5c] 28)).alloc (.cells #[.int .i64 d0, .bool d1, .int .i64 d2, .string d3, .slice d4 d4l d4c, .slice d5 d5l d5c] 28)).alloc (.cells #[.int .i64 e0, .bool e1, .int .i64 e2, .string e3, .slice e4 e4l e4c, .slice e5 e5l e5c] 28)).alloc (.cells zeroV 28)) := ((((Below.refl _ _).alloc (Nat.le_refl _) _).alloc (by simp) _).alloc (by simp; omega) _).alloc (by simp; omega) _
  have b1 : Box6 ((((w.alloc (.cells #[.int .i64 c0, .bool c1, .int .i64 c2, .string c3, .slice c4 c4l c4c, .slice c5 c5l c5c] 28)).alloc (.cells #[.int .i64 d0, .bool d1, .int .i64 d2, .string d3, .slice d4 d4l d4c, .slice d5 d5l d5c] 28)).alloc (.cells #[.int .i64 e0, .bool e1, .int .i64 e2, .string e3, .slice e4 e4l e4c, .slice e5 e5l e5c] 28)).alloc (.cells zeroV 28)) w.heap.size #[.int .i64 c0, .bool c1, .int .i64 c2, .string c3, .slice c4 c4l c4c, .slice c5 c5l c5c] := (Box6.new w _ 28).later ((((Below.refl (w.heap.size + 1) _).alloc (by simp) _).alloc (by simp) _).alloc (by simp) _) (by omega)
  have b2 : Box6 ((((w.alloc (.cells #[.int .i64 c0, .bool c1, .int .i64 c2, .string c3, .slice c4 c4l c4c, .slice c5 c5l c5c] 28)).alloc (.cells #[.int .i64 d0, .bool d1, .int .i64 d2, .string d3, .slice d4 d4l d4c, .slice d5 d5l d5c] 28)).alloc (.cells #[.int .i64 e0, .bool e1, .int .i64 e2, .string e3, .slice e4 e4l e4c, .slice e5 e5l e5c] 28)).alloc (.cells zeroV 28)) (w.heap.size + 1) #[.int .i64 d0, .bool d1, .int .i64 d2, .string d3, .slice d4 d4l d4c, .slice d5 d5l d5c] := by
    have := Box6.new (w.alloc (.cells #[.int .i64 c0, .bool c1, .int .i64 c2, .string c3, .slice c4 c4l c4c, .slice c5 c5l c5c] 28)) #[.int .i64 d0, .bool d1, .int .i64 d2, .string d3, .slice d4 d4l d4c, .slice d5 d5l d5c] 28
    rw [World.size_alloc] at this
    exact this.later (((Below.refl (w.heap.size + 1 + 1) _).alloc (by simp) _).alloc (by simp) _) (by omega)
  have b3 : Box6 ((((w.alloc (.cells #[.int .i64 c0, .bool c1, .int .i64 c2, .string c3, .slice c4 c4l c4c, .slice c5 c5l c5c] 28)).alloc (.cells #[.int .i64 d0, .bool d1, .int .i64 d2, .string d3, .slice d4 d4l d4c, .slice d5 d5l d5c] 28)).alloc (.cells #[.int .i64 e0, .bool e1, .int .i64 e2, .string e3, .slice e4 e4l e4c, .slice e5 e5l e5c] 28)).alloc (.cells zeroV 28)) (w.heap.size + 1 + 1) #[.int .i64 e0, .bool e1, .int .i64 e2, .string e3, .slice e4 e4l e4c, .slice e5 e5l e5c] := by
    have := Box6.new ((w.alloc (.cells #[.int .i64 c0, .bool c1, .int .i64 c2, .string c3, .slice c4 c4l c4c, .slice c5 c5l c5c] 28)).alloc (.cells #[.int .i64 d0, .bool d1, .int .i64 d2, .string d3, .slice d4 d4l d4c, .slice d5 d5l d5c] 28)) #[.int .i64 e0, .bool e1, .int .i64 e2, .string e3, .slice e4 e4l e4c, .slice e5 e5l e5c] 28
    rw [World.size_alloc, World.size_alloc] at this
    exact this.later ((Below.refl (w.heap.size + 1 + 1 + 1) _).alloc (by simp) _) (by omega)
  have b4 := Box6.new (((w.alloc (.cells #[.int .i64 c0, .bool c1, .int .i64 c2, .string c3, .slice c4 c4l c4c, .slice c5 c5l c5c] 28)).alloc (.cells #[.int .i64 d0, .bool d1, .int .i64 d2, .string d3, .slice d4 d4l d4c, .slice d5 d5l d5c] 28)).alloc (.cells #[.int .i64 e0, .bool e1, .int .i64 e2, .string e3, .slice e4 e4l e4c, .slice e5 e5l e5c] 28)) zeroV 28
  have t4 := Thaw.new (((w.alloc (.cells #[.int .i64 c0, .bool c1, .int .i64 c2, .string c3, .slice c4 c4l c4c, .slice c5 c5l c5c] 28)).alloc (.cells #[.int .i64 d0, .bool d1, .int .i64 d2, .string d3, .slice d4 d4l d4c, .slice d5 d5l d5c] 28)).alloc (.cells #[.int .i64 e0, .bool e1, .int .i64 e2, .string e3, .slice e4 e4l e4c, .slice e5 e5l e5c] 28)) zeroV 28
  rw [World.size_alloc, World.size_alloc, World.size_alloc] at b4 t4
  have es4 : ((((w.alloc (.cells #[.int .i64 c0, .bool c1, .int .i64 c2, .string c3, .slice c4 c4l c4c, .slice c5 c5l c5c] 28)).alloc (.cells #[.int .i64 d0, .bool d1, .int .i64 d2, .string d3, .slice d4 d4l d4c, .slice d5 d5l d5c] 28)).alloc (.cells #[.int .i64 e0, .bool e1, .int .i64 e2, .string e3, .slice e4 e4l e4c, .slice e5 e5l e5c] 28)).alloc (.cells zeroV 28)).heap.size = w.heap.size + 4 := by simp
  have HB4 := Lib.hid hb4
  have B2 := Lib.hid b2
  have B3 := Lib.hid b3
  have B4 := Lib.hid b4
  have T4 := Lib.hid t4
  have ES4 := Lib.hid es4
  have B1 := Lib.hid b1
  clear hdd hu h1 h2 h3 hct hb4 b1 b2 b3 b4 t4 es4
  go_enter Tryz.func35, Tryz.ntmps35
  go_upto_region 1 with fail
  generalize (((w.alloc (.cells #[.int .i64 c0, .bool c1, .int .i64 c2, .string c3, .slice c4 c4l c4c, .slice c5 c5l c5c] 28)).alloc (.cells #[.int .i64 d0, .bool d1, .int .i64 d2, .string d3, .slice d4 d4l d4c, .slice d5 d5l d5c] 28)).alloc (.cells #[.int .i64 e0, .bool e1, .int .i64 e2, .string e3, .slice e4 e4l e4c, .slice e5 e5l e5c] 28)).alloc (.cells zeroV 28) = v at *
  have hvs := Nat.le_of_eq ES4.out.symm
  have hwv := bstep hw HB4.out hw.size
  have HWV := Lib.hid hwv
  obtain ⟨x0, x1, x2, x3, x4, x5⟩ := B1.out.six
  have TR := Lib.hid (tTruth_any c0 c1 c2 c3 c4 c4l c4c c5 c5l c5c v)
  rw [HCT.out] at TR
  have CY := Lib.hid (fun w' (hw' : Below v.heap.size v w') => tClone_any H2.out w' (bstep HWV.out hw' HWV.out.size))
  have CZ := Lib.hid (fun w' (hw' : Below v.heap.size v w') => tClone_any H3.out w' (bstep HWV.out hw' HWV.out.size))
  clear hwv HCT
  generalize trT t = bt at TR hr
  cases bt with
  | true =>
    rw [if_pos rfl] at hr
    have HR := Lib.hid hr
    clear hr
    go_upto_region 2 with (go_at_call 33; refine TR.out.mono ?_; rintro e w1 ⟨rfl, hb⟩; have HB5 := Lib.hid hb; clear hb)
    obtain ⟨y0, y1, y2, y3, y4, y5⟩ := (B2.out.later HB5.out (by omega)).six
    go_wp2_with fail
    all_goals
      refine (CY.out _ HB5.out).mono ?_
      rintro e w2 ⟨ms, rfl, hL, hb⟩
      obtain ⟨m0, m1, m2, m3, m4, m4l, m4c, m5, m5l, m5c, rfl⟩ := hL.six
      have HL := Lib.hid hL
      have hb6 := bstep HB5.out hb HB5.out.size
      have HB6 := Lib.hid hb6
      obtain ⟨c0', c1', c2', c3', c4', c5'⟩ := (B4.out.later hb6 (by omega)).six
      obtain ⟨f0, f1, f2, f3, f4, f5⟩ := (T4.out.later hb6 (by omega)).six
      have hs1 := HB5.out.size
      clear hL hb hb6
      go_wp2_with fail
      refine ret_cells w2 (w.heap.size + 1 + 1 + 1) [.int .i64 m0, .bool m1, .int .i64 m2, .string m3, .slice m4 m4l m4c, .slice m5 m5l m5c] rfl Tryz.results35 rfl rfl DD.out HU.out Tryz.sizeV ((B4.out.later HB6.out (by omega)).cells rfl) ?_
      have hbf := setRow_below (w.heap.size + 1 + 1 + 1) (by omega) [.int .i64 m0, .bool m1, .int .i64 m2, .string m3, .slice m4 m4l m4c, .slice m5 m5l m5c] w2 0 (bstep HB4.out HB6.out HB4.out.size)
      have hl := HL.out.keep (w' := setRow w2 (w.heap.size + 1 + 1 + 1) 0 [.int .i64 m0, .bool m1, .int .i64 m2, .string m3, .slice m4 m4l m4c, .slice m5 m5l m5c]) (fun b hb => setRow_heap _ _ _ _ _ (by omega))
      generalize setRow w2 (w.heap.size + 1 + 1 + 1) 0 [.int .i64 m0, .bool m1, .int .i64 m2, .string m3, .slice m4 m4l m4c, .slice m5 m5l m5c] = v2 at hbf hl ⊢
      rw [HR.out]
      exact ⟨_, rfl, hl.weaken (fun b hb => by omega), hbf⟩
  | false =>
    rw [if_neg (by simp)] at hr
    have HR := Lib.hid hr
    clear hr
    go_upto_region 3 with (go_at_call 33; refine TR.out.mono ?_; rintro e w1 ⟨rfl, hb⟩; have HB5 := Lib.hid hb; clear hb)
    obtain ⟨y0, y1, y2, y3, y4, y5⟩ := (B3.out.later HB5.out (by omega)).six
    go_wp2_with fail
    all_goals
      refine (CZ.out _ HB5.out).mono ?_
      rintro e w2 ⟨ms, rfl, hL, hb⟩
      obtain ⟨m0, m1, m2, m3, m4, m4l, m4c, m5, m5l, m5c, rfl⟩ := hL.six
      have HL := Lib.hid hL
      have hb6 := bstep HB5.out hb HB5.out.size
      have HB6 := Lib.hid hb6
      obtain ⟨c0', c1', c2', c3', c4', c5'⟩ := (B4.out.later hb6 (by omega)).six
      obtain ⟨f0, f1, f2, f3, f4, f5⟩ := (T4.out.later hb6 (by omega)).six
      have hs1 := HB5.out.size
      clear hL hb hb6
      go_wp2_with fail
      refine ret_cells w2 (w.heap.size + 1 + 1 + 1) [.int .i64 m0, .bool m1, .int .i64 m2, .string m3, .slice m4 m4l m4c, .slice m5 m5l m5c] rfl Tryz.results35 rfl rfl DD.out HU.out Tryz.sizeV ((B4.out.later HB6.out (by omega)).cells rfl) ?_
      have hbf := setRow_below (w.heap.size + 1 + 1 + 1) (by omega) [.int .i64 m0, .bool m1, .int .i64 m2, .string m3, .slice m4 m4l m4c, .slice m5 m5l m5c] w2 0 (bstep HB4.out HB6.out HB4.out.size)
      have hl := HL.out.keep (w' := setRow w2 (w.heap.size + 1 + 1 + 1) 0 [.int .i64 m0, .bool m1, .int .i64 m2, .string m3, .slice m4 m4l m4c, .slice m5 m5l m5c]) (fun b hb => setRow_heap _ _ _ _ _ (by omega))
      generalize setRow w2 (w.heap.size + 1 + 1 + 1) 0 [.int .i64 m0, .bool m1, .int .i64 m2, .string m3, .slice m4 m4l m4c, .slice m5 m5l m5c] = v2 at hbf hl ⊢
      rw [HR.out]
      exact ⟨_, rfl, hl.weaken (fun b hb => by omega), hbf⟩

end Go.Proofs.YthjdeckdklhphaaGreatDoor

/-
  Package funcs' answer of default.
-/
set_option linter.unusedVariables false
set_option linter.unusedSimpArgs false
namespace Go.Proofs.YthjdeckdklhphaaGreatDoor
open Go.RowKit

set_option maxRecDepth 100000 in
set_option maxHeartbeats 2000000 in
theorem fanswer_default {R1 R2 : Nat → Prop} {t y : T} {a0 : Int} {a1 : Bool} {a2 : Int} {a3 : ByteArray} {a4 : Option Addr} {a4l a4c : Nat} {a5 : Option Addr} {a5l a5c : Nat} {b0 : Int} {b1 : Bool} {b2 : Int} {b3 : ByteArray} {b4 : Option Addr} {b4l b4c : Nat} {b5 : Option Addr} {b5l b5c : Nat} (w : World) (sb : Nat) (h : TwoV w sb (.int .i64 a0) (.bool a1) (.int .i64 a2) (.string a3) (.slice a4 a4l a4c) (.slice a5 a5l a5c) (.int .i64 b0) (.bool b1) (.int .i64 b2) (.string b3) (.slice b4 b4l b4c) (.slice b5 b5l b5c)) (hd : Lies w R1 y #[.int .i64 a0, .bool a1, .int .i64 a2, .string a3, .slice a4 a4l a4c, .slice a5 a5l a5c]) (hv : Lies w R2 t #[.int .i64 b0, .bool b1, .int .i64 b2, .string b3, .slice b4 b4l b4c, .slice b5 b5l b5c]) :
    Calls Tryz.prog 16 #[.string ⟨#[100, 101, 102, 97, 117, 108, 116]⟩, .slice (some ⟨sb, 0, none⟩) 2 2] w fun e w' => ∃ ds, e = .returned (.tuple #[.agg ds, .int .i64 0]) ∧ Lies w' (fun b => w.heap.size < b) (if trT t = true then t else y) ds ∧ Below w.heap.size w w' := by
  obtain ⟨r, hr⟩ : ∃ r, r = (if trT t = true then t else y) := ⟨_, rfl⟩
  have EI : Hid (∀ w', Below w.heap.size w w' → Calls Tryz.prog 35 #[.agg #[.int .i64 b0, .bool b1, .int .i64 b2, .string b3, .slice b4 b4l b4c, .slice b5 b5l b5c], .agg #[.int .i64 b0, .bool b1, .int .i64 b2, .string b3, .slice b4 b4l b4c, .slice b5 b5l b5c], .agg #[.int .i64 a0, .bool a1, .int .i64 a2, .string a3, .slice a4 a4l a4c, .slice a5 a5l a5c]] w' (Cloned w' r)) := fun w' hw' => by
    rw [hr]
    exact feither_any hv hv hd w' hw'
  rw [← hr]
  obtain ⟨dd, hu, hdd⟩ := Tryz.structV
  have DD := Lib.hid hdd
  have HU := Lib.hid hu
  clear hdd hu
  have hb1 := (Below.refl w.heap.size w).alloc (Nat.le_refl _) (.cells zeroV 28)
  have B1 := Lib.hid (Box6.new w zeroV 28)
  have T1 := Lib.hid (Thaw.new w zeroV 28)
  have es : (w.alloc (.cells zeroV 28)).heap.size = w.heap.size + 1 := by simp
  have H1 := Lib.hid (h.later hb1)
  have HB1 := Lib.hid hb1
  have ES := Lib.hid es
  have BZ := B1
  have TZ := T1
  clear h hb1 es hr hd hv
  go_enter Tryz.func16, Tryz.ntmps16
  go_upto_region 1 with fail
  generalize (w.alloc (.cells zeroV 28)) = v at *
  have hvr : w.heap.size < v.heap.size := by rw [ES.out]; omega
  go_upto_region 33 with fail
  obtain ⟨g0, g1, g2, g3, g4, g5, g6, g7, g8, g9, ga, gb⟩ := H1.out
  refine wp_region_specs4 v 10 (fun i => match i with | 0 => 111 | 1 => 112 | 2 => 113 | 3 => 114 | 4 => 115 | 5 => 116 | 6 => 117 | 7 => 118 | 8 => 119 | 9 => 120 | 10 => 5 | _ => 0) (fun i x wx => match i with | 0 => x = .slice (some ⟨sb, 0, none⟩) 2 2 | 1 => x = .pointer (some ⟨sb, 6, none⟩) | 2 => x = .agg #[.int .i64 b0, .bool b1, .int .i64 b2, .string b3, .slice b4 b4l b4c, .slice b5 b5l b5c] | 3 => x = .slice (some ⟨sb, 0, none⟩) 2 2 | 4 => x = .pointer (some ⟨sb, 6, none⟩) | 5 => x = .agg #[.int .i64 b0, .bool b1, .int .i64 b2, .string b3, .slice b4 b4l b4c, .slice b5 b5l b5c] | 6 => x = .slice (some ⟨sb, 0, none⟩) 2 2 | 7 => x = .pointer (some ⟨sb, 0, none⟩) | 8 => x = .agg #[.int .i64 a0, .bool a1, .int .i64 a2, .string a3, .slice a4 a4l a4c, .slice a5 a5l a5c] | 9 => ∃ ds : Array Value, x = .agg ds ∧ Lies wx (fun b => w.heap.size < b) r ds | _ => True) (fun i x => match i with | 0 => x = .slice (some ⟨sb, 0, none⟩) 2 2 | 1 => x = .pointer (some ⟨sb, 6, none⟩) | 2 => x = .agg #[.int .i64 b0, .bool b1, .int .i64 b2, .string b3, .slice b4 b4l b4c, .slice b5 b5l b5c] | 3 => x = .slice (some ⟨sb, 0, none⟩) 2 2 | 4 => x = .pointer (some ⟨sb, 6, none⟩) | 5 => x = .agg #[.int .i64 b0, .bool b1, .int .i64 b2, .string b3, .slice b4 b4l b4c, .slice b5 b5l b5c] | 6 => x = .slice (some ⟨sb, 0, none⟩) 2 2 | 7 => x = .pointer (some ⟨sb, 0, none⟩) | 8 => x = .agg #[.int .i64 a0, .bool a1, .int .i64 a2, .string a3, .slice a4 a4l a4c, .slice a5 a5l a5c] | 9 => True | _ => True) (fun wx => ∃ (vs : List Value) (wb : World), vs.length = 6 ∧ Below v.heap.size v wb ∧ Lies wb (fun b => w.heap.size < b) r vs.toArray ∧ wx = setRow wb w.heap.size 0 vs) (fun x wx => x = .int .i64 0 ∧ ∃ (vs : List Value) (wb : World), vs.length = 6 ∧ Below v.heap.size v wb ∧ Lies wb (fun b => w.heap.size < b) r vs.toArray ∧ wx = setRow wb w.heap.size 0 vs) (by kernel_rfl) (by kernel_rfl) ?s1 (Below.refl _ _) ?s2 ?sv ?s3 ?s4 ?s4b ?s5
  case s1 => intro i hi; rcases (by omega : i = 0 ∨ i = 1 ∨ i = 2 ∨ i = 3 ∨ i = 4 ∨ i = 5 ∨ i = 6 ∨ i = 7 ∨ i = 8 ∨ i = 9 ∨ i = 10) with rfl | rfl | rfl | rfl | rfl | rfl | rfl | rfl | rfl | rfl | rfl <;> exact Nat.lt_of_lt_of_le (by decide : _ < 193) (Nat.le_refl 193)
  case s2 =>
    intro i x w1 w2 hb hU
    match i, hU with
    | 9, ⟨ds, e, hL⟩ => exact ⟨ds, e, hL.later hb⟩
    | 0, h | 1, h | 2, h | 3, h | 4, h | 5, h | 6, h | 7, h | 8, h => exact h
    | (n + 10), _ => trivial
  case sv =>
    intro i x w1 hi hU
    match i, hU with
    | 9, _ => trivial
    | 0, h | 1, h | 2, h | 3, h | 4, h | 5, h | 6, h | 7, h | 8, h => exact h
    | (n + 10), _ => trivial
  case s3 =>
    intro i o ac wb K' ho hi hA hB hdep hK
    have sv0 : ac.tmps[0]?.getD undef = .string ⟨#[100, 101, 102, 97, 117, 108, 116]⟩ := hA.sl (t := 0) (by decide)
    have sv1 : ac.tmps[1]?.getD undef = .slice (some ⟨sb, 0, none⟩) 2 2 := hA.sl (t := 1) (by decide)
    have sv4 : ac.tmps[4]?.getD undef = .pointer (some ⟨w.heap.size, 0, none⟩) := hA.sl (t := 4) (by decide)
    have g0 := cells_frame hB g0
    have g1 := cells_frame hB g1
    have g2 := cells_frame hB g2
    have g3 := cells_frame hB g3
    have g4 := cells_frame hB g4
    have g5 := cells_frame hB g5
    have g6 := cells_frame hB g6
    have g7 := cells_frame hB g7
    have g8 := cells_frame hB g8
    have g9 := cells_frame hB g9
    have ga := cells_frame hB ga
    have gb := cells_frame hB gb
    rcases (by omega : i = 0 ∨ i = 1 ∨ i = 2 ∨ i = 3 ∨ i = 4 ∨ i = 5 ∨ i = 6 ∨ i = 7 ∨ i = 8 ∨ i = 9) with rfl | rfl | rfl | rfl | rfl | rfl | rfl | rfl | rfl | rfl
    · simp at ho
      subst ho
      clear hdep hA
      go_simp
      exact hK _ wb (Below.refl _ _) rfl
    · simp at ho
      subst ho
      have y0 : ac.tmps[111]?.getD undef = .slice (some ⟨sb, 0, none⟩) 2 2 := hdep { on := 0, ground := .data } (by simp) rfl
      clear hdep hA
      go_simp
      exact hK _ wb (Below.refl _ _) rfl
    · simp at ho
      subst ho
      have y1 : ac.tmps[112]?.getD undef = .pointer (some ⟨sb, 6, none⟩) := hdep { on := 1, ground := .data } (by simp) rfl
      clear hdep hA
      go_simp
      exact hK _ wb (Below.refl _ _) rfl
    · simp at ho
      subst ho
      clear hdep hA
      go_simp
      exact hK _ wb (Below.refl _ _) rfl
    · simp at ho
      subst ho
      have y3 : ac.tmps[114]?.getD undef = .slice (some ⟨sb, 0, none⟩) 2 2 := hdep { on := 3, ground := .data } (by simp) rfl
      clear hdep hA
      go_simp
      exact hK _ wb (Below.refl _ _) rfl
    · simp at ho
      subst ho
      have y4 : ac.tmps[115]?.getD undef = .pointer (some ⟨sb, 6, none⟩) := hdep { on := 4, ground := .data } (by simp) rfl
      clear hdep hA
      go_simp
      exact hK _ wb (Below.refl _ _) rfl
    · simp at ho
      subst ho
      clear hdep hA
      go_simp
      exact hK _ wb (Below.refl _ _) rfl
    · simp at ho
      subst ho
      have y6 : ac.tmps[117]?.getD undef = .slice (some ⟨sb, 0, none⟩) 2 2 := hdep { on := 6, ground := .data } (by simp) rfl
      clear hdep hA
      go_simp
      exact hK _ wb (Below.refl _ _) rfl
    · simp at ho
      subst ho
      have y7 : ac.tmps[118]?.getD undef = .pointer (some ⟨sb, 0, none⟩) := hdep { on := 7, ground := .data } (by simp) rfl
      clear hdep hA
      go_simp
      exact hK _ wb (Below.refl _ _) rfl
    · simp at ho
      subst ho
      have y2 : ac.tmps[113]?.getD undef = .agg #[.int .i64 b0, .bool b1, .int .i64 b2, .string b3, .slice b4 b4l b4c, .slice b5 b5l b5c] := hdep { on := 2, ground := .data } (by simp) rfl
      have y5 : ac.tmps[116]?.getD undef = .agg #[.int .i64 b0, .bool b1, .int .i64 b2, .string b3, .slice b4 b4l b4c, .slice b5 b5l b5c] := hdep { on := 5, ground := .data } (by simp) rfl
      have y8 : ac.tmps[119]?.getD undef = .agg #[.int .i64 a0, .bool a1, .int .i64 a2, .string a3, .slice a4 a4l a4c, .slice a5 a5l a5c] := hdep { on := 8, ground := .data } (by simp) rfl
      clear hdep hA
      go_simp
      refine (EI.out wb (bstep HB1.out hB HB1.out.size)).mono ?_
      rintro e w5 ⟨vs, rfl, hL, hb5⟩
      have hsB := hB.size
      exact hK _ w5 hb5 ⟨vs, rfl, hL.weaken fun b hb => by omega⟩
  case s4 =>
    intro o ac wb K' ho hA hB hU hK
    have sv0 : ac.tmps[0]?.getD undef = .string ⟨#[100, 101, 102, 97, 117, 108, 116]⟩ := hA.sl (t := 0) (by decide)
    have sv1 : ac.tmps[1]?.getD undef = .slice (some ⟨sb, 0, none⟩) 2 2 := hA.sl (t := 1) (by decide)
    have sv4 : ac.tmps[4]?.getD undef = .pointer (some ⟨w.heap.size, 0, none⟩) := hA.sl (t := 4) (by decide)
    have g0 := cells_frame hB g0
    have g1 := cells_frame hB g1
    have g2 := cells_frame hB g2
    have g3 := cells_frame hB g3
    have g4 := cells_frame hB g4
    have g5 := cells_frame hB g5
    have g6 := cells_frame hB g6
    have g7 := cells_frame hB g7
    have g8 := cells_frame hB g8
    have g9 := cells_frame hB g9
    have ga := cells_frame hB ga
    have gb := cells_frame hB gb
    simp at ho
    subst ho
    obtain ⟨dsy9, y9, hLy9⟩ := hU 9 (by omega)
    obtain ⟨m0, m1, m2, m3, m4, m4l, m4c, m5, m5l, m5c, rfl⟩ := hLy9.six
    have y9 : ac.tmps[120]?.getD undef = _ := y9
    clear hU hA
    obtain ⟨c0', c1', c2', c3', c4', c5'⟩ := (BZ.out.later hB (by omega)).six
    obtain ⟨f0, f1, f2, f3, f4, f5⟩ := (TZ.out.later hB (by omega)).six
    go_simp
    exact hK _ ⟨[.int .i64 m0, .bool m1, .int .i64 m2, .string m3, .slice m4 m4l m4c, .slice m5 m5l m5c], wb, rfl, hB, hLy9, rfl⟩
  case s4b =>
    intro o ac wb K' ho hA hVV hF hK
    have sv0 : ac.tmps[0]?.getD undef = .string ⟨#[100, 101, 102, 97, 117, 108, 116]⟩ := hA.sl (t := 0) (by decide)
    have sv1 : ac.tmps[1]?.getD undef = .slice (some ⟨sb, 0, none⟩) 2 2 := hA.sl (t := 1) (by decide)
    have sv4 : ac.tmps[4]?.getD undef = .pointer (some ⟨w.heap.size, 0, none⟩) := hA.sl (t := 4) (by decide)
    simp at ho
    subst ho
    clear hVV hA
    go_simp
    exact hK _ _ ⟨rfl, hF⟩
  case s5 =>
    intro ac wn hA hVV hF
    have hs : slots 11 (fun i => match i with | 0 => 111 | 1 => 112 | 2 => 113 | 3 => 114 | 4 => 115 | 5 => 116 | 6 => 117 | 7 => 118 | 8 => 119 | 9 => 120 | 10 => 5 | _ => 0) = [111, 112, 113, 114, 115, 116, 117, 118, 119, 120, 5] := by rfl
    rw [hs] at hA
    have hac := hA.act (fun t ht => by
      have h8 : t = 111 ∨ t = 112 ∨ t = 113 ∨ t = 114 ∨ t = 115 ∨ t = 116 ∨ t = 117 ∨ t = 118 ∨ t = 119 ∨ t = 120 ∨ t = 5 := by simpa using ht
      rcases h8 with rfl | rfl | rfl | rfl | rfl | rfl | rfl | rfl | rfl | rfl | rfl <;> exact Nat.lt_of_lt_of_le (by decide : _ < 193) (Nat.le_refl 193))
    rw [List.foldl_cons, List.foldl_cons, List.foldl_cons, List.foldl_cons, List.foldl_cons, List.foldl_cons, List.foldl_cons, List.foldl_cons, List.foldl_cons, List.foldl_cons, List.foldl_cons, List.foldl_nil] at hac
    generalize sl ac 111 = x111 at hac
    generalize sl ac 112 = x112 at hac
    generalize sl ac 113 = x113 at hac
    generalize sl ac 114 = x114 at hac
    generalize sl ac 115 = x115 at hac
    generalize sl ac 116 = x116 at hac
    generalize sl ac 117 = x117 at hac
    generalize sl ac 118 = x118 at hac
    generalize sl ac 119 = x119 at hac
    generalize sl ac 120 = x120 at hac
    generalize sl ac 5 = x5 at hac hF
    clear hA hs hVV
    subst hac
    simp only [Act.put, List.setIfInBounds_toArray, List.set_cons_succ, List.set_cons_zero]
    obtain ⟨rfl, vs, w5, hlen, hb5, hl5, rfl⟩ := hF
    have HV5 := Lib.hid hb5
    have HL5 := Lib.hid hl5
    have HLEN := Lib.hid hlen
    clear hb5 hl5 hlen
    generalize hW : setRow w5 w.heap.size 0 vs = W5
    have HW := Lib.hid hW.symm
    clear hW
    go_wp2_with fail
    refine ret_cells_tmp w5 w.heap.size vs HW.out Tryz.results16 rfl rfl DD.out HU.out (by rw [HLEN.out]; exact Tryz.sizeV) (fun i hi => (BZ.out.later HV5.out (by omega)).cells rfl i (by rw [← HLEN.out]; exact hi)) ?_
    have hbf := setRow_below w.heap.size (Nat.le_refl _) vs w5 0 (bstep HB1.out HV5.out HB1.out.size)
    have hl := HL5.out.keep (w' := setRow w5 w.heap.size 0 vs) (fun b hb => setRow_heap _ _ _ _ _ (by omega))
    generalize setRow w5 w.heap.size 0 vs = v2 at hbf hl ⊢
    exact ⟨_, rfl, hl, hbf⟩

end Go.Proofs.YthjdeckdklhphaaGreatDoor
