/-
  Package funcs' under: what a list has at a place, a map under a key.
-/
import Derived.Test.YthjdeckdklhphaaGreatDoorFnLst
import Derived.Test.YthjdeckdklhphaaGreatDoorGet
set_option linter.unusedVariables false
set_option linter.unusedSimpArgs false
namespace Go.Proofs.YthjdeckdklhphaaGreatDoor
open Go.RowKit

set_option maxRecDepth 100000 in
set_option maxHeartbeats 2000000 in
theorem funder_list {w0 : World} {R : Nat → Prop} {ts : List T} {cs : Array Value} (h : Lies w0 R (T.listOf ts) cs) (i : Nat) (hi : i < ts.length) (w : World) (hw : Below w0.heap.size w0 w) :
    Calls Tryz.prog 40 #[.agg cs, .agg #[.int .i64 2, .bool false, .int .i64 (i : Int), .string ⟨#[]⟩, .slice none 0 0, .slice none 0 0]] w fun e w' => ∃ ds, e = .returned (.tuple #[.agg ds, .int .i64 0]) ∧ Lies w' (fun b => w.heap.size ≤ b) ts[i] ds ∧ Below w.heap.size w w' := by
  obtain ⟨c0, c1, c2, c3, c4, c4l, c4c, c5, c5l, c5c, rfl⟩ := h.six
  have hk : c0 = 4 ∧ c4l = ts.length := by cases h; exact ⟨rfl, rfl⟩
  obtain ⟨rfl, rfl⟩ := hk
  have hS : ∃ cl, SliceV w0 R ts c4 c4c cl := by
    have h2 : Lies w0 R (.mk 4 false 0 ⟨#[]⟩ ts []) #[.int .i64 4, .bool c1, .int .i64 c2, .string c3, .slice c4 ts.length c4c, .slice c5 c5l c5c] := h
    cases h2 with
    | mk k b n s l m la lc ma mc cl cm hk hn hs hl hm rl rm ks il im => exact ⟨cl, hl, rl, il⟩
  obtain ⟨cl, hS⟩ := hS
  have g1 : decide ((i : Int) < 0) = false := decide_eq_false (by omega)
  have g2 : decide ((ts.length : Int) ≤ (i : Int)) = false := decide_eq_false (by omega)
  have hbig := hS.hdr.big
  have hle := hS.hdr.le
  have HS := Lib.hid hS
  have CC := Lib.hid (fun w' hw' => tClone_any (hS.each i hi) w' hw')
  clear hS h
  obtain ⟨dd, hu, hdd⟩ := Tryz.structV
  have DD := Lib.hid hdd
  have HU := Lib.hid hu
  clear hdd hu
  have hbv : Below w.heap.size w (((w.alloc (.cells #[.int .i64 4, .bool c1, .int .i64 c2, .string c3, .slice c4 ts.length c4c, .slice c5 c5l c5c] 28)).alloc (.cells #[.int .i64 2, .bool false, .int .i64 (i : Int), .string ⟨#[]⟩, .slice none 0 0, .slice none 0 0] 28)).alloc (.cells zeroV 28)) := ((((Below.refl _ _).alloc (Nat.le_refl _) _).alloc (by simp) _).alloc (by simp; omega) _)
  have b0 : Box6 (((w.alloc (.cells #[.int .i64 4, .bool c1, .int .i64 c2, .string c3, .slice c4 ts.length c4c, .slice c5 c5l c5c] 28)).alloc (.cells #[.int .i64 2, .bool false, .int .i64 (i : Int), .string ⟨#[]⟩, .slice none 0 0, .slice none 0 0] 28)).alloc (.cells zeroV 28)) (w.heap.size) #[.int .i64 4, .bool c1, .int .i64 c2, .string c3, .slice c4 ts.length c4c, .slice c5 c5l c5c] := by
    have := Box6.new w #[.int .i64 4, .bool c1, .int .i64 c2, .string c3, .slice c4 ts.length c4c, .slice c5 c5l c5c] 28
    exact this.later (((Below.refl (w.heap.size + 1) _).alloc (by simp) _).alloc (by simp) _) (by omega)
  have b1 : Box6 (((w.alloc (.cells #[.int .i64 4, .bool c1, .int .i64 c2, .string c3, .slice c4 ts.length c4c, .slice c5 c5l c5c] 28)).alloc (.cells #[.int .i64 2, .bool false, .int .i64 (i : Int), .string ⟨#[]⟩, .slice none 0 0, .slice none 0 0] 28)).alloc (.cells zeroV 28)) (w.heap.size + 1) #[.int .i64 2, .bool false, .int .i64 (i : Int), .string ⟨#[]⟩, .slice none 0 0, .slice none 0 0] := by
    have := Box6.new (w.alloc (.cells #[.int .i64 4, .bool c1, .int .i64 c2, .string c3, .slice c4 ts.length c4c, .slice c5 c5l c5c] 28)) #[.int .i64 2, .bool false, .int .i64 (i : Int), .string ⟨#[]⟩, .slice none 0 0, .slice none 0 0] 28
    simp only [World.size_alloc] at this
    exact this.later ((Below.refl (w.heap.size + 1 + 1) _).alloc (by simp) _) (by omega)
  have b2 : Box6 (((w.alloc (.cells #[.int .i64 4, .bool c1, .int .i64 c2, .string c3, .slice c4 ts.length c4c, .slice c5 c5l c5c] 28)).alloc (.cells #[.int .i64 2, .bool false, .int .i64 (i : Int), .string ⟨#[]⟩, .slice none 0 0, .slice none 0 0] 28)).alloc (.cells zeroV 28)) (w.heap.size + 1 + 1) zeroV := by
    have := Box6.new ((w.alloc (.cells #[.int .i64 4, .bool c1, .int .i64 c2, .string c3, .slice c4 ts.length c4c, .slice c5 c5l c5c] 28)).alloc (.cells #[.int .i64 2, .bool false, .int .i64 (i : Int), .string ⟨#[]⟩, .slice none 0 0, .slice none 0 0] 28)) zeroV 28
    simp only [World.size_alloc] at this
    exact this
  have tz := Thaw.new ((w.alloc (.cells #[.int .i64 4, .bool c1, .int .i64 c2, .string c3, .slice c4 ts.length c4c, .slice c5 c5l c5c] 28)).alloc (.cells #[.int .i64 2, .bool false, .int .i64 (i : Int), .string ⟨#[]⟩, .slice none 0 0, .slice none 0 0] 28)) zeroV 28
  simp only [World.size_alloc] at tz
  have es : (((w.alloc (.cells #[.int .i64 4, .bool c1, .int .i64 c2, .string c3, .slice c4 ts.length c4c, .slice c5 c5l c5c] 28)).alloc (.cells #[.int .i64 2, .bool false, .int .i64 (i : Int), .string ⟨#[]⟩, .slice none 0 0, .slice none 0 0] 28)).alloc (.cells zeroV 28)).heap.size = w.heap.size + 3 := by simp
  have B0 := Lib.hid b0
  have B1 := Lib.hid b1
  have B2 := Lib.hid b2
  have TZ := Lib.hid tz
  have HV := Lib.hid hbv
  have ES := Lib.hid es
  clear hbv tz es b0 b1 b2
  go_enter Tryz.func40, Tryz.ntmps40
  go_upto_region 1 with fail
  generalize (((w.alloc (.cells #[.int .i64 4, .bool c1, .int .i64 c2, .string c3, .slice c4 ts.length c4c, .slice c5 c5l c5c] 28)).alloc (.cells #[.int .i64 2, .bool false, .int .i64 (i : Int), .string ⟨#[]⟩, .slice none 0 0, .slice none 0 0] 28)).alloc (.cells zeroV 28)) = v at *
  have hvs := Nat.le_of_eq ES.out.symm
  have HWV := Lib.hid (bstep hw HV.out hw.size)
  obtain ⟨x0, x1, x2, x3, x4, x5⟩ := B0.out.six
  obtain ⟨y0, y1, y2, y3, y4, y5⟩ := B1.out.six
  obtain ⟨bl, ol, e0, e1, e2, e3, e4, e4l, e4c, e5, e5l, e5c, rfl, hc, r0, r1, r2, r3, r4, r5⟩ := openL HWV.out HS.out.hdr HS.out.rows hi (HS.out.each i hi)
  rw [hc] at CC
  clear hc
  go_upto_region 7 with fail
  go_wp2_with (go_at_call 44; refine (CC.out _ HWV.out).mono ?_; rintro e w5 ⟨ds, rfl, hL, hb5⟩; obtain ⟨m0, m1, m2, m3, m4, m4l, m4c, m5, m5l, m5c, rfl⟩ := hL.six; have HV5 := Lib.hid hb5; have HL5 := Lib.hid hL; obtain ⟨c0', c1', c2', c3', c4', c5'⟩ := (B2.out.later hb5 (by omega)).six; obtain ⟨f0, f1, f2, f3, f4, f5⟩ := (TZ.out.later hb5 (by omega)).six; clear hb5 hL)
  exact ret_cells_tmp w5 (w.heap.size + 1 + 1) [.int .i64 m0, .bool m1, .int .i64 m2, .string m3, .slice m4 m4l m4c, .slice m5 m5l m5c] rfl Tryz.results40 rfl rfl DD.out HU.out Tryz.sizeV ((B2.out.later HV5.out (by omega)).cells rfl) ⟨_, rfl, (HL5.out.keep (w' := setRow w5 (w.heap.size + 1 + 1) 0 [.int .i64 m0, .bool m1, .int .i64 m2, .string m3, .slice m4 m4l m4c, .slice m5 m5l m5c]) (fun b hb => setRow_heap _ _ _ _ _ (by omega))).weaken fun b hb => by omega, setRow_below _ (by omega) _ _ _ (bstep HV.out HV5.out HV.out.size)⟩

set_option maxRecDepth 100000 in
set_option maxHeartbeats 2000000 in
theorem funder_map {w0 : World} {R : Nat → Prop} {m : List (ByteArray × T)} {cs : Array Value} (h : Lies w0 R (.mk 5 false 0 ⟨#[]⟩ [] m) cs) (key : ByteArray) (w : World) (hw : Below w0.heap.size w0 w) :
    Calls Tryz.prog 40 #[.agg cs, .agg #[.int .i64 3, .bool false, .int .i64 0, .string key, .slice none 0 0, .slice none 0 0]] w fun e w' => ∃ ds, e = .returned (.tuple #[.agg ds, .int .i64 0]) ∧ Lies w' (fun b => w.heap.size ≤ b) (((T.mk 5 false 0 ⟨#[]⟩ [] m).get key).getD T.nil) ds ∧ Below w.heap.size w w' := by
  obtain ⟨c0, c1, c2, c3, c4, c4l, c4c, c5, c5l, c5c, rfl⟩ := h.six
  have hk : c0 = 5 := by cases h; rfl
  obtain rfl := hk
  have GT := Lib.hid (fun w' hw' => tGet_any h key w' hw')
  generalize ((T.mk 5 false 0 ⟨#[]⟩ [] m).get key) = gr at GT ⊢
  clear h
  obtain ⟨dd, hu, hdd⟩ := Tryz.structV
  have DD := Lib.hid hdd
  have HU := Lib.hid hu
  clear hdd hu
  have hbv : Below w.heap.size w (((w.alloc (.cells #[.int .i64 5, .bool c1, .int .i64 c2, .string c3, .slice c4 c4l c4c, .slice c5 c5l c5c] 28)).alloc (.cells #[.int .i64 3, .bool false, .int .i64 0, .string key, .slice none 0 0, .slice none 0 0] 28)).alloc (.cells zeroV 28)) := ((((Below.refl _ _).alloc (Nat.le_refl _) _).alloc (by simp) _).alloc (by simp; omega) _)
  have b0 : Box6 (((w.alloc (.cells #[.int .i64 5, .bool c1, .int .i64 c2, .string c3, .slice c4 c4l c4c, .slice c5 c5l c5c] 28)).alloc (.cells #[.int .i64 3, .bool false, .int .i64 0, .string key, .slice none 0 0, .slice none 0 0] 28)).alloc (.cells zeroV 28)) (w.heap.size) #[.int .i64 5, .bool c1, .int .i64 c2, .string c3, .slice c4 c4l c4c, .slice c5 c5l c5c] := by
    have := Box6.new w #[.int .i64 5, .bool c1, .int .i64 c2, .string c3, .slice c4 c4l c4c, .slice c5 c5l c5c] 28
    exact this.later (((Below.refl (w.heap.size + 1) _).alloc (by simp) _).alloc (by simp) _) (by omega)
  have b1 : Box6 (((w.alloc (.cells #[.int .i64 5, .bool c1, .int .i64 c2, .string c3, .slice c4 c4l c4c, .slice c5 c5l c5c] 28)).alloc (.cells #[.int .i64 3, .bool false, .int .i64 0, .string key, .slice none 0 0, .slice none 0 0] 28)).alloc (.cells zeroV 28)) (w.heap.size + 1) #[.int .i64 3, .bool false, .int .i64 0, .string key, .slice none 0 0, .slice none 0 0] := by
    have := Box6.new (w.alloc (.cells #[.int .i64 5, .bool c1, .int .i64 c2, .string c3, .slice c4 c4l c4c, .slice c5 c5l c5c] 28)) #[.int .i64 3, .bool false, .int .i64 0, .string key, .slice none 0 0, .slice none 0 0] 28
    simp only [World.size_alloc] at this
    exact this.later ((Below.refl (w.heap.size + 1 + 1) _).alloc (by simp) _) (by omega)
  have b2 : Box6 (((w.alloc (.cells #[.int .i64 5, .bool c1, .int .i64 c2, .string c3, .slice c4 c4l c4c, .slice c5 c5l c5c] 28)).alloc (.cells #[.int .i64 3, .bool false, .int .i64 0, .string key, .slice none 0 0, .slice none 0 0] 28)).alloc (.cells zeroV 28)) (w.heap.size + 1 + 1) zeroV := by
    have := Box6.new ((w.alloc (.cells #[.int .i64 5, .bool c1, .int .i64 c2, .string c3, .slice c4 c4l c4c, .slice c5 c5l c5c] 28)).alloc (.cells #[.int .i64 3, .bool false, .int .i64 0, .string key, .slice none 0 0, .slice none 0 0] 28)) zeroV 28
    simp only [World.size_alloc] at this
    exact this
  have tz := Thaw.new ((w.alloc (.cells #[.int .i64 5, .bool c1, .int .i64 c2, .string c3, .slice c4 c4l c4c, .slice c5 c5l c5c] 28)).alloc (.cells #[.int .i64 3, .bool false, .int .i64 0, .string key, .slice none 0 0, .slice none 0 0] 28)) zeroV 28
  simp only [World.size_alloc] at tz
  have es : (((w.alloc (.cells #[.int .i64 5, .bool c1, .int .i64 c2, .string c3, .slice c4 c4l c4c, .slice c5 c5l c5c] 28)).alloc (.cells #[.int .i64 3, .bool false, .int .i64 0, .string key, .slice none 0 0, .slice none 0 0] 28)).alloc (.cells zeroV 28)).heap.size = w.heap.size + 3 := by simp
  have B0 := Lib.hid b0
  have B1 := Lib.hid b1
  have B2 := Lib.hid b2
  have TZ := Lib.hid tz
  have HV := Lib.hid hbv
  have ES := Lib.hid es
  clear hbv tz es b0 b1 b2
  go_enter Tryz.func40, Tryz.ntmps40
  go_upto_region 1 with fail
  generalize (((w.alloc (.cells #[.int .i64 5, .bool c1, .int .i64 c2, .string c3, .slice c4 c4l c4c, .slice c5 c5l c5c] 28)).alloc (.cells #[.int .i64 3, .bool false, .int .i64 0, .string key, .slice none 0 0, .slice none 0 0] 28)).alloc (.cells zeroV 28)) = v at *
  have hvs := Nat.le_of_eq ES.out.symm
  have HWV := Lib.hid (bstep hw HV.out hw.size)
  obtain ⟨x0, x1, x2, x3, x4, x5⟩ := B0.out.six
  obtain ⟨y0, y1, y2, y3, y4, y5⟩ := B1.out.six
  go_upto_region 2 with fail
  go_upto_region 3 with (go_at_call 72; refine (GT.out _ HWV.out).mono ?_; rintro e w5 ⟨ds, rfl, hL, hb5⟩; obtain ⟨m0, m1, m2, m3, m4, m4l, m4c, m5, m5l, m5c, rfl⟩ := hL.six; have HV5 := Lib.hid hb5; have HL5 := Lib.hid hL; clear hb5 hL)
  have hbz := HV5.out.alloc HV5.out.size (.cells #[.int .i64 m0, .bool m1, .int .i64 m2, .string m3, .slice m4 m4l m4c, .slice m5 m5l m5c] 28)
  have hlz := (HL5.out.later ((Below.refl w5.heap.size w5).alloc (Nat.le_refl _) (.cells #[.int .i64 m0, .bool m1, .int .i64 m2, .string m3, .slice m4 m4l m4c, .slice m5 m5l m5c] 28)))
  have bx := Box6.new w5 #[.int .i64 m0, .bool m1, .int .i64 m2, .string m3, .slice m4 m4l m4c, .slice m5 m5l m5c] 28
  generalize w5.alloc (.cells #[.int .i64 m0, .bool m1, .int .i64 m2, .string m3, .slice m4 m4l m4c, .slice m5 m5l m5c] 28) = z at hbz hlz bx ⊢
  have HBZ := Lib.hid hbz
  have HLZ := Lib.hid hlz
  clear hbz hlz
  obtain ⟨q0, q1, q2, q3, q4, q5⟩ := bx.six
  obtain ⟨c0', c1', c2', c3', c4', c5'⟩ := (B2.out.later HBZ.out (by omega)).six
  obtain ⟨f0, f1, f2, f3, f4, f5⟩ := (TZ.out.later HBZ.out (by omega)).six
  clear bx
  go_wp2_with fail
  exact ret_cells_tmp z (w.heap.size + 1 + 1) [.int .i64 m0, .bool m1, .int .i64 m2, .string m3, .slice m4 m4l m4c, .slice m5 m5l m5c] rfl Tryz.results40 rfl rfl DD.out HU.out Tryz.sizeV ((B2.out.later HBZ.out (by omega)).cells rfl) ⟨_, rfl, (HLZ.out.keep (w' := setRow z (w.heap.size + 1 + 1) 0 [.int .i64 m0, .bool m1, .int .i64 m2, .string m3, .slice m4 m4l m4c, .slice m5 m5l m5c]) (fun b hb => setRow_heap _ _ _ _ _ (by omega))).weaken fun b hb => by omega, setRow_below _ (by omega) _ _ _ (bstep HV.out HBZ.out HV.out.size)⟩

end Go.Proofs.YthjdeckdklhphaaGreatDoor
