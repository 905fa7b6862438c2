/-
  Package funcs' answers of list, dict, len, keys, get, has.
-/
import Derived.Test.YthjdeckdklhphaaGreatDoorFnDict
import Derived.Test.YthjdeckdklhphaaGreatDoorFnUnd
import Derived.Test.YthjdeckdklhphaaGreatDoorLawOrdersM
import Derived.Test.YthjdeckdklhphaaGreatDoorFnCallEM
import Derived.Test.YthjdeckdklhphaaGreatDoorFnAnsw
set_option linter.unusedVariables false
set_option linter.unusedSimpArgs false
namespace Go.Proofs.YthjdeckdklhphaaGreatDoor
open Go.RowKit

/-- A value, and an error; the value lies behind. -/
def ValE (w : World) (c : Int) (r : T) (e : Ending) (w' : World) : Prop := ∃ ds, e = .returned (.tuple #[.agg ds, .int .i64 c]) ∧ Lies w' (fun b => w.heap.size ≤ b) r ds ∧ Below w.heap.size w w'

set_option maxRecDepth 100000 in
set_option maxHeartbeats 2000000 in
theorem fanswer_list {w0 : World} {R : Nat → Prop} {ts : List T} {a : Option Addr} {cap : Nat} {cl : Nat → Array Value} (h : SliceV w0 R ts a cap cl) (hz : (T.listOf ts).size ≤ 4611686018427387904) (w : World) (hw : Below w0.heap.size w0 w) :
    Calls Tryz.prog 16 #[.string ⟨#[108, 105, 115, 116]⟩, .slice a ts.length cap] w (ValE w (T.listOf ts).check (T.listOf ts)) := by
  have LI := Lib.hid (fun w' hw' => tList_any h w' hw')
  have HZ := Lib.hid hz
  generalize hck : (T.listOf ts).check = ck
  have HCK := Lib.hid hck
  have hbig := h.hdr.big
  have hle := h.hdr.le
  clear h hz hck
  obtain ⟨dd, hu, hdd⟩ := Tryz.structV
  have DD := Lib.hid hdd
  have HU := Lib.hid hu
  clear hdd hu
  have hbv : Below w.heap.size w (w.alloc (.cells zeroV 28)) := ((Below.refl _ _).alloc (Nat.le_refl _) _)
  have b0 : Box6 (w.alloc (.cells zeroV 28)) (w.heap.size) zeroV := by
    have := Box6.new w zeroV 28
    exact this
  have tz := Thaw.new w zeroV 28
  have es : (w.alloc (.cells zeroV 28)).heap.size = w.heap.size + 1 := by simp
  have B0 := Lib.hid b0
  have TZ := Lib.hid tz
  have HV := Lib.hid hbv
  have ES := Lib.hid es
  clear hbv tz es b0
  go_enter Tryz.func16, Tryz.ntmps16
  go_upto_region 1 with fail
  generalize (w.alloc (.cells zeroV 28)) = v at *
  have hvs := Nat.le_of_eq ES.out.symm
  have HWV := Lib.hid (bstep hw HV.out hw.size)
  go_upto_region 39 with fail
  go_wp2_with (first
    | (go_at_call 14; refine (LI.out _ HWV.out).mono ?_; rintro e w5 ⟨ds, rfl, hL, hb5⟩; obtain ⟨m0, m1, m2, m3, m4, m4l, m4c, m5, m5l, m5c, rfl⟩ := hL.six; have HV5 := Lib.hid hb5; have HL5 := Lib.hid hL; clear hb5 hL)
    | (go_at_call 37; refine (fchecked_any HL5.out HZ.out _ (Below.refl _ _)).mono ?_; rintro e w6 ⟨rfl, hb6⟩; rw [HCK.out]; have HL6 := Lib.hid (HL5.out.later hb6); have HV6 := Lib.hid (bstep HV5.out hb6 HV5.out.size); obtain ⟨c0', c1', c2', c3', c4', c5'⟩ := (B0.out.later HV6.out (by omega)).six; obtain ⟨f0, f1, f2, f3, f4, f5⟩ := (TZ.out.later HV6.out (by omega)).six; clear hb6))
  have hvw := HV.out.size
  exact ret_cells_tmp w6 w.heap.size [.int .i64 m0, .bool m1, .int .i64 m2, .string m3, .slice m4 m4l m4c, .slice m5 m5l m5c] rfl Tryz.results16 rfl rfl DD.out HU.out Tryz.sizeV ((B0.out.later HV6.out (by omega)).cells rfl) ⟨_, rfl, (HL6.out.keep (w' := setRow w6 w.heap.size 0 [.int .i64 m0, .bool m1, .int .i64 m2, .string m3, .slice m4 m4l m4c, .slice m5 m5l m5c]) (fun b hb => setRow_heap _ _ _ _ _ (by omega))).weaken fun b hb => by omega, setRow_below _ (by omega) _ _ _ (bstep HV.out HV6.out HV.out.size)⟩

set_option maxRecDepth 100000 in
set_option maxHeartbeats 2000000 in
theorem fanswer_dict {w0 : World} {R : Nat → Prop} {ts : List T} {a : Option Addr} {cap : Nat} {cl : Nat → Array Value} (h : SliceV w0 R ts a cap cl) (ps : List (ByteArray × T)) (hn : ts.length = 2 * ps.length) (hp : ps.length ≤ 100000)
    (hk : ∀ j (h : j < ps.length) (h1 : 2 * j < ts.length), ts[2 * j] = keyT ps[j].1) (hv : ∀ j (h : j < ps.length) (h1 : 2 * j + 1 < ts.length), ts[2 * j + 1] = ps[j].2)
    (hz : (T.mk 5 false 0 ⟨#[]⟩ [] (putAll ps)).size ≤ 4611686018427387904) (w : World) (hw : Below w0.heap.size w0 w) :
    Calls Tryz.prog 16 #[.string ⟨#[100, 105, 99, 116]⟩, .slice a ts.length cap] w (ValE w (T.mk 5 false 0 ⟨#[]⟩ [] (putAll ps)).check (.mk 5 false 0 ⟨#[]⟩ [] (putAll ps))) := by
  have DI := Lib.hid (fun w' hw' => fdict_any h ps hn hp hk hv hz w' hw')
  generalize (T.mk 5 false 0 ⟨#[]⟩ [] (putAll ps)).check = ck at DI ⊢
  generalize (T.mk 5 false 0 ⟨#[]⟩ [] (putAll ps)) = rr at DI ⊢
  have hbig := h.hdr.big
  have hle := h.hdr.le
  generalize ts.length = tl at DI hbig hle ⊢
  clear h hz hk hv hn hp
  obtain ⟨dd, hu, hdd⟩ := Tryz.structV
  have DD := Lib.hid hdd
  have HU := Lib.hid hu
  clear hdd hu
  have hbv : Below w.heap.size w (w.alloc (.cells zeroV 28)) := ((Below.refl _ _).alloc (Nat.le_refl _) _)
  have b0 : Box6 (w.alloc (.cells zeroV 28)) (w.heap.size) zeroV := by
    have := Box6.new w zeroV 28
    exact this
  have tz := Thaw.new w zeroV 28
  have es : (w.alloc (.cells zeroV 28)).heap.size = w.heap.size + 1 := by simp
  have B0 := Lib.hid b0
  have TZ := Lib.hid tz
  have HV := Lib.hid hbv
  have ES := Lib.hid es
  clear hbv tz es b0
  go_enter Tryz.func16, Tryz.ntmps16
  go_upto_region 1 with fail
  generalize (w.alloc (.cells zeroV 28)) = v at *
  have hvs := Nat.le_of_eq ES.out.symm
  have HWV := Lib.hid (bstep hw HV.out hw.size)
  go_upto_region 41 with fail
  go_wp2_with (go_at_call 38; refine (DI.out _ HWV.out).mono ?_; rintro e w6 ⟨ds, rfl, hL, hb6⟩; obtain ⟨m0, m1, m2, m3, m4, m4l, m4c, m5, m5l, m5c, rfl⟩ := hL.six; have HV6 := Lib.hid hb6; have HL6 := Lib.hid hL; obtain ⟨c0', c1', c2', c3', c4', c5'⟩ := (B0.out.later HV6.out (by omega)).six; obtain ⟨f0, f1, f2, f3, f4, f5⟩ := (TZ.out.later HV6.out (by omega)).six; clear hb6 hL)
  have hvw := HV.out.size
  exact ret_cells_tmp w6 w.heap.size [.int .i64 m0, .bool m1, .int .i64 m2, .string m3, .slice m4 m4l m4c, .slice m5 m5l m5c] rfl Tryz.results16 rfl rfl DD.out HU.out Tryz.sizeV ((B0.out.later HV6.out (by omega)).cells rfl) ⟨_, rfl, (HL6.out.keep (w' := setRow w6 w.heap.size 0 [.int .i64 m0, .bool m1, .int .i64 m2, .string m3, .slice m4 m4l m4c, .slice m5 m5l m5c]) (fun b hb => setRow_heap _ _ _ _ _ (by omega))).weaken fun b hb => by omega, setRow_below _ (by omega) _ _ _ (bstep HV.out HV6.out HV.out.size)⟩

set_option maxRecDepth 100000 in
set_option maxHeartbeats 2000000 in
theorem fanswer_keys {w0 : World} {R : Nat → Prop} {a0 : Int} {a1 : Bool} {a2 : Int} {a3 : ByteArray} {a4 : Option Addr} {a4l a4c : Nat} {a5 : Option Addr} {a5l a5c : Nat} {m : List (ByteArray × T)} (h : Lies w0 R (.mk 5 false 0 ⟨#[]⟩ [] m) #[.int .i64 a0, .bool a1, .int .i64 a2, .string a3, .slice a4 a4l a4c, .slice a5 a5l a5c]) (sb : Nat) (w : World) (hw : Below w0.heap.size w0 w) (hx : Box6 w sb #[.int .i64 a0, .bool a1, .int .i64 a2, .string a3, .slice a4 a4l a4c, .slice a5 a5l a5c]) (hsb : sb < w.heap.size) :
    Calls Tryz.prog 16 #[.string ⟨#[107, 101, 121, 115]⟩, .slice (some ⟨sb, 0, none⟩) 1 1] w (ValE w 0 (T.listOf (m.map fun p => keyT p.1))) := by
  have FN := Lib.hid (fun w' hw' => fkeys_map h w' hw')
  generalize (T.listOf (m.map fun p => keyT p.1)) = rr at FN ⊢
  clear h
  obtain ⟨dd, hu, hdd⟩ := Tryz.structV
  have DD := Lib.hid hdd
  have HU := Lib.hid hu
  clear hdd hu
  have hbv : Below w.heap.size w (w.alloc (.cells zeroV 28)) := ((Below.refl _ _).alloc (Nat.le_refl _) _)
  have b0 : Box6 (w.alloc (.cells zeroV 28)) (w.heap.size) zeroV := by
    have := Box6.new w zeroV 28
    exact this
  have tz := Thaw.new w zeroV 28
  have es : (w.alloc (.cells zeroV 28)).heap.size = w.heap.size + 1 := by simp
  have B0 := Lib.hid b0
  have TZ := Lib.hid tz
  have HV := Lib.hid hbv
  have ES := Lib.hid es
  clear hbv tz es b0
  have HX := Lib.hid (hx.later HV.out hsb)
  clear hx
  go_enter Tryz.func16, Tryz.ntmps16
  go_upto_region 1 with fail
  generalize (w.alloc (.cells zeroV 28)) = v at *
  have hvs := Nat.le_of_eq ES.out.symm
  have HWV := Lib.hid (bstep hw HV.out hw.size)
  obtain ⟨x0, x1, x2, x3, x4, x5⟩ := HX.out.six
  go_upto_region 47 with fail
  go_wp2_with (go_at_call 41; refine (FN.out _ HWV.out).mono ?_; rintro e w6 ⟨ds, rfl, hL, hb6⟩; obtain ⟨m0, m1, m2, m3, m4, m4l, m4c, m5, m5l, m5c, rfl⟩ := hL.six; have HV6 := Lib.hid hb6; have HL6 := Lib.hid hL; obtain ⟨c0', c1', c2', c3', c4', c5'⟩ := (B0.out.later HV6.out (by omega)).six; obtain ⟨f0, f1, f2, f3, f4, f5⟩ := (TZ.out.later HV6.out (by omega)).six; clear hb6 hL)
  have hvw := HV.out.size
  exact ret_cells_tmp w6 w.heap.size [.int .i64 m0, .bool m1, .int .i64 m2, .string m3, .slice m4 m4l m4c, .slice m5 m5l m5c] rfl Tryz.results16 rfl rfl DD.out HU.out Tryz.sizeV ((B0.out.later HV6.out (by omega)).cells rfl) ⟨_, rfl, (HL6.out.keep (w' := setRow w6 w.heap.size 0 [.int .i64 m0, .bool m1, .int .i64 m2, .string m3, .slice m4 m4l m4c, .slice m5 m5l m5c]) (fun b hb => setRow_heap _ _ _ _ _ (by omega))).weaken fun b hb => by omega, setRow_below _ (by omega) _ _ _ (bstep HV.out HV6.out HV.out.size)⟩

end Go.Proofs.YthjdeckdklhphaaGreatDoor
