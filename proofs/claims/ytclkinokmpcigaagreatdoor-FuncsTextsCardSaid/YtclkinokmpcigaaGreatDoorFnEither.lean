/-
  Package funcs' either: the one value or the other one.
-/
import Derived.Test.YtclkinokmpcigaaGreatDoorBox
import Derived.Test.YtclkinokmpcigaaGreatDoorTruth
import Derived.Test.YtclkinokmpcigaaGreatDoorCloneP
import Derived.Deep.DeepCutAuto
set_option linter.unusedVariables false
set_option linter.unusedSimpArgs false
namespace Go.Proofs.YtclkinokmpcigaaGreatDoor
open Go.RowKit

/-- What counts as true. -/
def trT (t : T) : Bool := countsB t.kind t.truth t.num t.str t.list.length t.map.length

set_option maxRecDepth 100000 in
set_option maxHeartbeats 2000000 in
theorem feither_any {w0 : World} {R1 R2 R3 : Nat → Prop} {t y z : T} {cs ds es : Array Value} (h1 : Lies w0 R1 t cs) (h2 : Lies w0 R2 y ds) (h3 : Lies w0 R3 z es) (w : World) (hw : Below w0.heap.size w0 w) :
    Calls Tryz.prog 32 #[.agg cs, .agg ds, .agg es] w (Cloned w (if trT t = true then y else z)) := by
  obtain ⟨c0, c1, c2, c3, c4, c4l, c4c, c5, c5l, c5c, rfl⟩ := h1.six
  obtain ⟨d0, d1, d2, d3, d4, d4l, d4c, d5, d5l, d5c, rfl⟩ := h2.six
  obtain ⟨e0, e1, e2, e3, e4, e4l, e4c, e5, e5l, e5c, rfl⟩ := h3.six
  have hct : countsB c0 c1 c2 c3 c4l c5l = trT t := by cases h1; rfl
  have HCT := Lib.hid hct
  obtain ⟨r, hr⟩ : ∃ r, r = (if trT t = true then y else z) := ⟨_, rfl⟩
  rw [← hr]
  have H2 := Lib.hid h2
  have H3 := Lib.hid h3
  obtain ⟨dd, hu, hdd⟩ := Tryz.structV
  have DD := Lib.hid hdd
  have HU := Lib.hid hu
  have hb4 : Below w.heap.size w ((((w.alloc (.cells #[.int .i64 c0, .bool c1, .int .i64 c2, .string c3, .slice c4 c4l c4c, .slice c5 c5l c5c] 27)).alloc (.cells #[.int .i64 d0, .bool d1, .int .i64 d2, .string d3, .slice d4 d4l d4c, .slice d5 d5l d5c] 27)).alloc (.cells #[.int .i64 e0, .bool e1, .int .i64 e2, .string e3, .slice e4 e4l e4c, .slice e5 e5l e5c] 27)).alloc (.cells zeroV 27)) := ((((Below.refl _ _).alloc (Nat.le_refl _) _).alloc (by simp) _).alloc (by simp; omega) _).alloc (by simp; omega) _
  have b1 : Box6 ((((w.alloc (.cells #[.int .i64 c0, .bool c1, .int .i64 c2, .string c3, .slice c4 c4l c4c, .slice c5 c5l c5c] 27)).alloc (.cells #[.int .i64 d0, .bool d1, .int .i64 d2, .string d3, .slice d4 d4l d4c, .slice d5 d5l d5c] 27)).alloc (.cells #[.int .i64 e0, .bool e1, .int .i64 e2, .string e3, .slice e4 e4l e4c, .slice e5 e5l e5c] 27)).alloc (.cells zeroV 27)) w.heap.size #[.int .i64 c0, .bool c1, .int .i64 c2, .string c3, .slice c4 c4l c4c, .slice c5 c5l c5c] := (Box6.new w _ 27).later ((((Below.refl (w.heap.size + 1) _).alloc (by simp) _).alloc (by simp) _).alloc (by simp) _) (by omega)
  have b2 : Box6 ((((w.alloc (.cells #[.int .i64 c0, .bool c1, .int .i64 c2, .string c3, .slice c4 c4l c4c, .slice c5 c5l c5c] 27)).alloc (.cells #[.int .i64 d0, .bool d1, .int .i64 d2, .string d3, .slice d4 d4l d4c, .slice d5 d5l d5c] 27)).alloc (.cells #[.int .i64 e0, .bool e1, .int .i64 e2, .string e3, .slice e4 e4l e4c, .slice e5 e5l e5c] 27)).alloc (.cells zeroV 27)) (w.heap.size + 1) #[.int .i64 d0, .bool d1, .int .i64 d2, .string d3, .slice d4 d4l d4c, .slice d5 d5l d5c] := by
    have := Box6.new (w.alloc (.cells #[.int .i64 c0, .bool c1, .int .i64 c2, .string c3, .slice c4 c4l c4c, .slice c5 c5l c5c] 27)) #[.int .i64 d0, .bool d1, .int .i64 d2, .string d3, .slice d4 d4l d4c, .slice d5 d5l d5c] 27
    rw [World.size_alloc] at this
    exact this.later (((Below.refl (w.heap.size + 1 + 1) _).alloc (by simp) _).alloc (by simp) _) (by omega)
  have b3 : Box6 ((((w.alloc (.cells #[.int .i64 c0, .bool c1, .int .i64 c2, .string c3, .slice c4 c4l c4c, .slice c5 c5l c5c] 27)).alloc (.cells #[.int .i64 d0, .bool d1, .int .i64 d2, .string d3, .slice d4 d4l d4c, .slice d5 d5l d5c] 27)).alloc (.cells #[.int .i64 e0, .bool e1, .int .i64 e2, .string e3, .slice e4 e4l e4c, .slice e5 e5l e5c] 27)).alloc (.cells zeroV 27)) (w.heap.size + 1 + 1) #[.int .i64 e0, .bool e1, .int .i64 e2, .string e3, .slice e4 e4l e4c, .slice e5 e5l e5c] := by
    have := Box6.new ((w.alloc (.cells #[.int .i64 c0, .bool c1, .int .i64 c2, .string c3, .slice c4 c4l c4c, .slice c5 c5l c5c] 27)).alloc (.cells #[.int .i64 d0, .bool d1, .int .i64 d2, .string d3, .slice d4 d4l d4c, .slice d5 d5l d5c] 27)) #[.int .i64 e0, .bool e1, .int .i64 e2, .string e3, .slice e4 e4l e4c, .slice e5 e5l e5c] 27
    rw [World.size_alloc, World.size_alloc] at this
    exact this.later ((Below.refl (w.heap.size + 1 + 1 + 1) _).alloc (by simp) _) (by omega)
  have b4 := Box6.new (((w.alloc (.cells #[.int .i64 c0, .bool c1, .int .i64 c2, .string c3, .slice c4 c4l c4c, .slice c5 c5l c5c] 27)).alloc (.cells #[.int .i64 d0, .bool d1, .int .i64 d2, .string d3, .slice d4 d4l d4c, .slice d5 d5l d5c] 27)).alloc (.cells #[.int .i64 e0, .bool e1, .int .i64 e2, .string e3, .slice e4 e4l e4c, .slice e5 e5l e5c] 27)) zeroV 27
  have t4 := Thaw.new (((w.alloc (.cells #[.int .i64 c0, .bool c1, .int .i64 c2, .string c3, .slice c4 c4l c4c, .slice c5 c5l c5c] 27)).alloc (.cells #[.int .i64 d0, .bool d1, .int .i64 d2, .string d3, .slice d4 d4l d4c, .slice d5 d5l d5c] 27)).alloc (.cells #[.int .i64 e0, .bool e1, .int .i64 e2, .string e3, .slice e4 e4l e4c, .slice e5 e5l e5c] 27)) zeroV 27
  rw [World.size_alloc, World.size_alloc, World.size_alloc] at b4 t4
  have es4 : ((((w.alloc (.cells #[.int .i64 c0, .bool c1, .int .i64 c2, .string c3, .slice c4 c4l c4c, .slice c5 c5l c5c] 27)).alloc (.cells #[.int .i64 d0, .bool d1, .int .i64 d2, .string d3, .slice d4 d4l d4c, .slice d5 d5l d5c] 27)).alloc (.cells #[.int .i64 e0, .bool e1, .int .i64 e2, .string e3, .slice e4 e4l e4c, .slice e5 e5l e5c] 27)).alloc (.cells zeroV 27)).heap.size = w.heap.size + 4 := by simp
  have HB4 := Lib.hid hb4
  have B2 := Lib.hid b2
  have B3 := Lib.hid b3
  have B4 := Lib.hid b4
  have T4 := Lib.hid t4
  have ES4 := Lib.hid es4
  have B1 := Lib.hid b1
  clear hdd hu h1 h2 h3 hct hb4 b1 b2 b3 b4 t4 es4
  go_enter Tryz.func32, Tryz.ntmps32
  go_upto_region 1 with fail
  generalize (((w.alloc (.cells #[.int .i64 c0, .bool c1, .int .i64 c2, .string c3, .slice c4 c4l c4c, .slice c5 c5l c5c] 27)).alloc (.cells #[.int .i64 d0, .bool d1, .int .i64 d2, .string d3, .slice d4 d4l d4c, .slice d5 d5l d5c] 27)).alloc (.cells #[.int .i64 e0, .bool e1, .int .i64 e2, .string e3, .slice e4 e4l e4c, .slice e5 e5l e5c] 27)).alloc (.cells zeroV 27) = v at *
  have hvs := Nat.le_of_eq ES4.out.symm
  have hwv := bstep hw HB4.out hw.size
  have HWV := Lib.hid hwv
  obtain ⟨x0, x1, x2, x3, x4, x5⟩ := B1.out.six
  have TR := Lib.hid (tTruth_any c0 c1 c2 c3 c4 c4l c4c c5 c5l c5c v)
  rw [HCT.out] at TR
  have CY := Lib.hid (fun w' (hw' : Below v.heap.size v w') => tClone_any H2.out w' (bstep HWV.out hw' HWV.out.size))
  have CZ := Lib.hid (fun w' (hw' : Below v.heap.size v w') => tClone_any H3.out w' (bstep HWV.out hw' HWV.out.size))
  clear hwv HCT
  generalize trT t = bt at TR hr
  cases bt with
  | true =>
    rw [if_pos rfl] at hr
    have HR := Lib.hid hr
    clear hr
    go_upto_region 2 with (go_at_call 30; refine TR.out.mono ?_; rintro e w1 ⟨rfl, hb⟩; have HB5 := Lib.hid hb; clear hb)
    obtain ⟨y0, y1, y2, y3, y4, y5⟩ := (B2.out.later HB5.out (by omega)).six
    go_wp2_with fail
    all_goals
      refine (CY.out _ HB5.out).mono ?_
      rintro e w2 ⟨ms, rfl, hL, hb⟩
      obtain ⟨m0, m1, m2, m3, m4, m4l, m4c, m5, m5l, m5c, rfl⟩ := hL.six
      have HL := Lib.hid hL
      have hb6 := bstep HB5.out hb HB5.out.size
      have HB6 := Lib.hid hb6
      obtain ⟨c0', c1', c2', c3', c4', c5'⟩ := (B4.out.later hb6 (by omega)).six
      obtain ⟨f0, f1, f2, f3, f4, f5⟩ := (T4.out.later hb6 (by omega)).six
      have hs1 := HB5.out.size
      clear hL hb hb6
      go_wp2_with fail
      refine ret_cells w2 (w.heap.size + 1 + 1 + 1) [.int .i64 m0, .bool m1, .int .i64 m2, .string m3, .slice m4 m4l m4c, .slice m5 m5l m5c] rfl Tryz.results32 rfl rfl DD.out HU.out Tryz.sizeV ((B4.out.later HB6.out (by omega)).cells rfl) ?_
      have hbf := setRow_below (w.heap.size + 1 + 1 + 1) (by omega) [.int .i64 m0, .bool m1, .int .i64 m2, .string m3, .slice m4 m4l m4c, .slice m5 m5l m5c] w2 0 (bstep HB4.out HB6.out HB4.out.size)
      have hl := HL.out.keep (w' := setRow w2 (w.heap.size + 1 + 1 + 1) 0 [.int .i64 m0, .bool m1, .int .i64 m2, .string m3, .slice m4 m4l m4c, .slice m5 m5l m5c]) (fun b hb => setRow_heap _ _ _ _ _ (by omega))
      generalize setRow w2 (w.heap.size + 1 + 1 + 1) 0 [.int .i64 m0, .bool m1, .int .i64 m2, .string m3, .slice m4 m4l m4c, .slice m5 m5l m5c] = v2 at hbf hl ⊢
      rw [HR.out]
      exact ⟨_, rfl, hl.weaken (fun b hb => by omega), hbf⟩
  | false =>
    rw [if_neg (by simp)] at hr
    have HR := Lib.hid hr
    clear hr
    go_upto_region 3 with (go_at_call 30; refine TR.out.mono ?_; rintro e w1 ⟨rfl, hb⟩; have HB5 := Lib.hid hb; clear hb)
    obtain ⟨y0, y1, y2, y3, y4, y5⟩ := (B3.out.later HB5.out (by omega)).six
    go_wp2_with fail
    all_goals
      refine (CZ.out _ HB5.out).mono ?_
      rintro e w2 ⟨ms, rfl, hL, hb⟩
      obtain ⟨m0, m1, m2, m3, m4, m4l, m4c, m5, m5l, m5c, rfl⟩ := hL.six
      have HL := Lib.hid hL
      have hb6 := bstep HB5.out hb HB5.out.size
      have HB6 := Lib.hid hb6
      obtain ⟨c0', c1', c2', c3', c4', c5'⟩ := (B4.out.later hb6 (by omega)).six
      obtain ⟨f0, f1, f2, f3, f4, f5⟩ := (T4.out.later hb6 (by omega)).six
      have hs1 := HB5.out.size
      clear hL hb hb6
      go_wp2_with fail
      refine ret_cells w2 (w.heap.size + 1 + 1 + 1) [.int .i64 m0, .bool m1, .int .i64 m2, .string m3, .slice m4 m4l m4c, .slice m5 m5l m5c] rfl Tryz.results32 rfl rfl DD.out HU.out Tryz.sizeV ((B4.out.later HB6.out (by omega)).cells rfl) ?_
      have hbf := setRow_below (w.heap.size + 1 + 1 + 1) (by omega) [.int .i64 m0, .bool m1, .int .i64 m2, .string m3, .slice m4 m4l m4c, .slice m5 m5l m5c] w2 0 (bstep HB4.out HB6.out HB4.out.size)
      have hl := HL.out.keep (w' := setRow w2 (w.heap.size + 1 + 1 + 1) 0 [.int .i64 m0, .bool m1, .int .i64 m2, .string m3, .slice m4 m4l m4c, .slice m5 m5l m5c]) (fun b hb => setRow_heap _ _ _ _ _ (by omega))
      generalize setRow w2 (w.heap.size + 1 + 1 + 1) 0 [.int .i64 m0, .bool m1, .int .i64 m2, .string m3, .slice m4 m4l m4c, .slice m5 m5l m5c] = v2 at hbf hl ⊢
      rw [HR.out]
      exact ⟨_, rfl, hl.weaken (fun b hb => by omega), hbf⟩

end Go.Proofs.YtclkinokmpcigaaGreatDoor
