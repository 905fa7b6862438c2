/-
  Package funcs' Call of what FuncsTruths calls; its two closures.
-/
import Derived.Test.YtkonkjaabkmecaaGreatDoorFnAndOr
import Derived.Test.YtkonkjaabkmecaaGreatDoorFnCmp
import Derived.Test.YtkonkjaabkmecaaGreatDoorFnTern
import Derived.Test.YtkonkjaabkmecaaGreatDoorFnDef
import Derived.Test.YtkonkjaabkmecaaGreatDoorFnAwake
set_option linter.unusedVariables false
set_option linter.unusedSimpArgs false
namespace Go.Proofs.YtkonkjaabkmecaaGreatDoor
open Go.RowKit

/-- A truth. -/
def boolT (b : Bool) : T := .mk 1 b 0 ⟨#[]⟩ [] []
theorem lies_bool (w : World) (R : Nat → Prop) (b : Bool) : Lies w R (boolT b) (cB b) :=
  .mk 1 b 0 ⟨#[]⟩ [] [] none 0 none 0 (fun _ => #[]) (fun _ => #[]) (by decide) (by decide) (by decide) ⟨by simp, by simp, fun _ => rfl, fun h => absurd h (by simp), by simp⟩ ⟨by simp, by simp, fun _ => rfl, fun h => absurd h (by simp), by simp⟩
    (fun i h => absurd h (by simp)) (fun i h => absurd h (by simp)) (fun i h => absurd h (by simp)) (fun i h => absurd h (by simp)) (fun i h => absurd h (by simp))
theorem boolT_size (b : Bool) : (boolT b).str.size ≤ 65536 := Nat.zero_le 65536
/-- A value, and no error; it lies behind. -/
def ValIn (w : World) (r : T) (e : Ending) (w' : World) : Prop := ∃ ds, e = .returned (.tuple #[.agg ds, .int .i64 0]) ∧ Lies w' (fun b => w.heap.size < b) r ds ∧ Below w.heap.size w w'
def ValOut (w : World) (r : T) (e : Ending) (w' : World) : Prop := ∃ ds, e = .returned (.agg ds) ∧ Lies w' (fun b => w.heap.size < b) r ds ∧ Below w.heap.size w w'
theorem valIn_bool {f : FuncId} {args : Array Value} {w : World} {b : Bool} (h : Calls Tryz.prog f args w fun e w' => e = .returned (.tuple #[.agg (cB b), .int .i64 0]) ∧ Below w.heap.size w w') : Calls Tryz.prog f args w (ValIn w (boolT b)) := h.mono fun e w' ⟨h1, hb⟩ => ⟨_, h1, lies_bool _ _ _, hb⟩

theorem calls_val {name : ByteArray} {k : Nat} (hk : k < 29) (he : (fnAt k).1 = name) {sa : Option Addr} {len sc : Nat} (hlo : (fnAt k).2.1 ≤ (len : Int)) (hhi : (len : Int) ≤ (fnAt k).2.2) {r : T} (hs : r.str.size ≤ 65536) (w : World) (hw : FnTab w)
    (H : ∀ w1, Below w.heap.size w w1 → Calls Tryz.prog 36 #[.string name, .slice sa len sc] w1 (ValIn w1 r)) :
    Calls Tryz.prog 12 #[.string name, .slice sa len sc] w (ValIn w r) := by
  refine (fCall_any name k hk he (fun i hi => by rw [← he]; exact fn_first hk i hi) sa len sc hlo hhi (fun ds c w' => c = 0 ∧ Lies w' (fun b => w.heap.size < b) r ds) w (fun ds c w1 w2 hs hk h => ⟨h.1, (h.2.keepB fun b hb hlt => hk b (by omega) hlt).weaken fun b hb => hb.1⟩) hw fun w1 hw1 hlt => ?_).mono ?_
  · refine (H w1 hw1).mono ?_
    rintro e w' ⟨ds, rfl, hL, hb⟩
    obtain ⟨m0, m1, m2, m3, m4, m4l, m4c, m5, m5l, m5c, rfl⟩ := hL.six
    have hm : m3 = r.str := by cases hL; rfl
    exact ⟨_, _, _, _, _, _, _, _, _, _, 0, rfl, .inl ⟨rfl, by rw [hm]; exact hs⟩, ⟨rfl, hL.weaken fun b hb => by omega⟩, hb⟩
  · rintro e w' ⟨ds, c, rfl, ⟨rfl, hL⟩, hb⟩
    exact ⟨ds, rfl, hL, hb⟩

set_option maxHeartbeats 1000000 in
theorem truths1_any (name : ByteArray) (sa : Option Addr) (len sc : Nat) (r : T) (w : World) (H : ∀ w1, Below w.heap.size w w1 → Calls Tryz.prog 12 #[.string name, .slice sa len sc] w1 (ValIn w1 r)) :
    Calls Tryz.prog 29 #[.string name, .slice sa len sc] w (ValOut w r) := by
  obtain ⟨dd, hu, hdd⟩ := Tryz.structV
  have DD := Lib.hid hdd
  have HU := Lib.hid hu
  clear hdd hu
  have hb1 := (Below.refl w.heap.size w).alloc (Nat.le_refl _) (.cells zeroV 27)
  have BZ := Lib.hid (Box6.new w zeroV 27)
  have TZ := Lib.hid (Thaw.new w zeroV 27)
  have es : (w.alloc (.cells zeroV 27)).heap.size = w.heap.size + 1 := by simp
  have CA := Lib.hid (H _ hb1)
  have HB1 := Lib.hid hb1
  have ES := Lib.hid es
  clear H hb1 es
  go_enter Tryz.func29, Tryz.ntmps29
  go_upto_region 1 with fail
  generalize (w.alloc (.cells zeroV 27)) = v at *
  have hvs := Nat.le_of_eq ES.out.symm
  go_upto_region 2 with (go_at_call 12; refine CA.out.mono ?_; rintro e w2 ⟨ds, rfl, hL, hb⟩; obtain ⟨m0, m1, m2, m3, m4, m4l, m4c, m5, m5l, m5c, rfl⟩ := hL.six; have HB2 := Lib.hid hb; have HL := Lib.hid hL; clear hb hL)
  have hbz := HB2.out.alloc HB2.out.size (.cells #[.int .i64 m0, .bool m1, .int .i64 m2, .string m3, .slice m4 m4l m4c, .slice m5 m5l m5c] 27)
  have HBZ := Lib.hid hbz
  have hlz := (HL.out.later ((Below.refl w2.heap.size w2).alloc (Nat.le_refl _) (.cells #[.int .i64 m0, .bool m1, .int .i64 m2, .string m3, .slice m4 m4l m4c, .slice m5 m5l m5c] 27))).weaken (R' := fun b => w.heap.size < b) fun b hb => by omega
  have HLZ := Lib.hid hlz
  have bx := Box6.new w2 #[.int .i64 m0, .bool m1, .int .i64 m2, .string m3, .slice m4 m4l m4c, .slice m5 m5l m5c] 27
  clear HL hbz hlz
  generalize w2.alloc (.cells #[.int .i64 m0, .bool m1, .int .i64 m2, .string m3, .slice m4 m4l m4c, .slice m5 m5l m5c] 27) = z at HBZ HLZ bx ⊢
  obtain ⟨q0, q1, q2, q3, q4, q5⟩ := bx.six
  obtain ⟨c0', c1', c2', c3', c4', c5'⟩ := (BZ.out.later HBZ.out (by omega)).six
  obtain ⟨f0, f1, f2, f3, f4, f5⟩ := (TZ.out.later HBZ.out (by omega)).six
  clear bx
  go_wp2_with fail
  refine ret_cells z w.heap.size [.int .i64 m0, .bool m1, .int .i64 m2, .string m3, .slice m4 m4l m4c, .slice m5 m5l m5c] rfl Tryz.results29 rfl rfl DD.out HU.out Tryz.sizeV ((BZ.out.later HBZ.out (by omega)).cells rfl) ?_
  exact ⟨_, rfl, HLZ.out.keep (w' := setRow z w.heap.size 0 [.int .i64 m0, .bool m1, .int .i64 m2, .string m3, .slice m4 m4l m4c, .slice m5 m5l m5c]) (fun b hb => setRow_heap _ _ _ _ _ (by omega)), setRow_below _ (Nat.le_refl _) _ _ _ (bstep HB1.out HBZ.out HB1.out.size)⟩

set_option maxRecDepth 100000 in
set_option maxHeartbeats 2000000 in
theorem truths2_any {R1 R2 : Nat → Prop} {y z : T} {a0 : Int} {a1 : Bool} {a2 : Int} {a3 : ByteArray} {a4 : Option Addr} {a4l a4c : Nat} {a5 : Option Addr} {a5l a5c : Nat} {b0 : Int} {b1 : Bool} {b2 : Int} {b3 : ByteArray} {b4 : Option Addr} {b4l b4c : Nat} {b5 : Option Addr} {b5l b5c : Nat} (so : Bool) (w : World) (hy : Lies w R1 y #[.int .i64 a0, .bool a1, .int .i64 a2, .string a3, .slice a4 a4l a4c, .slice a5 a5l a5c]) (hz : Lies w R2 z #[.int .i64 b0, .bool b1, .int .i64 b2, .string b3, .slice b4 b4l b4c, .slice b5 b5l b5c]) :
    Calls Tryz.prog 30 #[.bool so, .agg #[.int .i64 a0, .bool a1, .int .i64 a2, .string a3, .slice a4 a4l a4c, .slice a5 a5l a5c], .agg #[.int .i64 b0, .bool b1, .int .i64 b2, .string b3, .slice b4 b4l b4c, .slice b5 b5l b5c]] w fun e w' => ∃ ds, e = .returned (.agg ds) ∧ Lies w' (fun _ => True) (if so = true then y else z) ds ∧ Below w.heap.size w w' := by
  obtain ⟨dd, hu, hdd⟩ := Tryz.structV
  have DD := Lib.hid hdd
  have HU := Lib.hid hu
  clear hdd hu
  have e2 : ((w.alloc (.cells #[.int .i64 a0, .bool a1, .int .i64 a2, .string a3, .slice a4 a4l a4c, .slice a5 a5l a5c] 27)).alloc (.cells #[.int .i64 b0, .bool b1, .int .i64 b2, .string b3, .slice b4 b4l b4c, .slice b5 b5l b5c] 27)).heap.size = w.heap.size + 1 + 1 := by simp
  have hb3 : Below w.heap.size w (((w.alloc (.cells #[.int .i64 a0, .bool a1, .int .i64 a2, .string a3, .slice a4 a4l a4c, .slice a5 a5l a5c] 27)).alloc (.cells #[.int .i64 b0, .bool b1, .int .i64 b2, .string b3, .slice b4 b4l b4c, .slice b5 b5l b5c] 27)).alloc (.cells zeroV 27)) := (((Below.refl _ _).alloc (Nat.le_refl _) _).alloc (by simp) _).alloc (by simp; omega) _
  have bx1 : Box6 (((w.alloc (.cells #[.int .i64 a0, .bool a1, .int .i64 a2, .string a3, .slice a4 a4l a4c, .slice a5 a5l a5c] 27)).alloc (.cells #[.int .i64 b0, .bool b1, .int .i64 b2, .string b3, .slice b4 b4l b4c, .slice b5 b5l b5c] 27)).alloc (.cells zeroV 27)) w.heap.size #[.int .i64 a0, .bool a1, .int .i64 a2, .string a3, .slice a4 a4l a4c, .slice a5 a5l a5c] := (Box6.new w _ 27).later (((Below.refl (w.heap.size + 1) _).alloc (by simp) _).alloc (by simp) _) (by omega)
  have bx2 : Box6 (((w.alloc (.cells #[.int .i64 a0, .bool a1, .int .i64 a2, .string a3, .slice a4 a4l a4c, .slice a5 a5l a5c] 27)).alloc (.cells #[.int .i64 b0, .bool b1, .int .i64 b2, .string b3, .slice b4 b4l b4c, .slice b5 b5l b5c] 27)).alloc (.cells zeroV 27)) (w.heap.size + 1) #[.int .i64 b0, .bool b1, .int .i64 b2, .string b3, .slice b4 b4l b4c, .slice b5 b5l b5c] := by
    have := Box6.new (w.alloc (.cells #[.int .i64 a0, .bool a1, .int .i64 a2, .string a3, .slice a4 a4l a4c, .slice a5 a5l a5c] 27)) #[.int .i64 b0, .bool b1, .int .i64 b2, .string b3, .slice b4 b4l b4c, .slice b5 b5l b5c] 27
    rw [World.size_alloc] at this
    exact this.later ((Below.refl (w.heap.size + 1 + 1) _).alloc (by simp) _) (by omega)
  have bx3 := Box6.new ((w.alloc (.cells #[.int .i64 a0, .bool a1, .int .i64 a2, .string a3, .slice a4 a4l a4c, .slice a5 a5l a5c] 27)).alloc (.cells #[.int .i64 b0, .bool b1, .int .i64 b2, .string b3, .slice b4 b4l b4c, .slice b5 b5l b5c] 27)) zeroV 27
  have t3 := Thaw.new ((w.alloc (.cells #[.int .i64 a0, .bool a1, .int .i64 a2, .string a3, .slice a4 a4l a4c, .slice a5 a5l a5c] 27)).alloc (.cells #[.int .i64 b0, .bool b1, .int .i64 b2, .string b3, .slice b4 b4l b4c, .slice b5 b5l b5c] 27)) zeroV 27
  rw [e2] at bx3 t3
  have HB3 := Lib.hid hb3
  have B1 := Lib.hid bx1
  have B2 := Lib.hid bx2
  have BZ := Lib.hid bx3
  have TZ := Lib.hid t3
  have HY := Lib.hid ((hy.bound.later hb3).weaken (R' := fun b => b < w.heap.size) fun b hb => hb.2)
  have HZ := Lib.hid ((hz.bound.later hb3).weaken (R' := fun b => b < w.heap.size) fun b hb => hb.2)
  clear e2 hb3 bx1 bx2 bx3 t3 hy hz
  go_enter Tryz.func30, Tryz.ntmps30
  go_upto_region 1 with fail
  generalize (((w.alloc (.cells #[.int .i64 a0, .bool a1, .int .i64 a2, .string a3, .slice a4 a4l a4c, .slice a5 a5l a5c] 27)).alloc (.cells #[.int .i64 b0, .bool b1, .int .i64 b2, .string b3, .slice b4 b4l b4c, .slice b5 b5l b5c] 27)).alloc (.cells zeroV 27)) = v at *
  obtain ⟨p0, p1, p2, p3, p4, p5⟩ := B1.out.six
  obtain ⟨q0, q1, q2, q3, q4, q5⟩ := B2.out.six
  obtain ⟨c0', c1', c2', c3', c4', c5'⟩ := BZ.out.six
  obtain ⟨f0, f1, f2, f3, f4, f5⟩ := TZ.out.six
  cases so with
  | true =>
    go_wp2_with fail
    refine ret_cells v (w.heap.size + 1 + 1) [.int .i64 a0, .bool a1, .int .i64 a2, .string a3, .slice a4 a4l a4c, .slice a5 a5l a5c] rfl Tryz.results30 rfl rfl DD.out HU.out Tryz.sizeV (BZ.out.cells rfl) ?_
    exact ⟨_, rfl, (HY.out.keep (w' := setRow v (w.heap.size + 1 + 1) 0 [.int .i64 a0, .bool a1, .int .i64 a2, .string a3, .slice a4 a4l a4c, .slice a5 a5l a5c]) (fun b hb => setRow_heap _ _ _ _ _ (by omega))).weaken fun _ _ => trivial, setRow_below _ (by omega) _ _ _ HB3.out⟩
  | false =>
    go_wp2_with fail
    refine ret_cells v (w.heap.size + 1 + 1) [.int .i64 b0, .bool b1, .int .i64 b2, .string b3, .slice b4 b4l b4c, .slice b5 b5l b5c] rfl Tryz.results30 rfl rfl DD.out HU.out Tryz.sizeV (BZ.out.cells rfl) ?_
    exact ⟨_, rfl, (HZ.out.keep (w' := setRow v (w.heap.size + 1 + 1) 0 [.int .i64 b0, .bool b1, .int .i64 b2, .string b3, .slice b4 b4l b4c, .slice b5 b5l b5c]) (fun b hb => setRow_heap _ _ _ _ _ (by omega))).weaken fun _ _ => trivial, setRow_below _ (by omega) _ _ _ HB3.out⟩

theorem pick_and (t u : T) (h : 0 < [t, u].length) : [t, u][pickN false [t, u]]'(pickN_lt h) = if trT t = true then u else t := by
  have e : pickN false [t, u] = if trT t = true then 1 else 0 := by
    unfold pickN
    cases ht : trT t <;> cases hu : trT u <;> simp [List.findIdx?_cons, soT, ht, hu]
  have : [t, u][pickN false [t, u]]? = some (if trT t = true then u else t) := by
    rw [e]; cases trT t <;> rfl
  exact Option.some.inj ((List.getElem?_eq_getElem _).symm.trans this)
theorem pick_or (t u : T) (h : 0 < [t, u].length) : [t, u][pickN true [t, u]]'(pickN_lt h) = if trT t = true then t else u := by
  have e : pickN true [t, u] = if trT t = true then 0 else 1 := by
    unfold pickN
    cases ht : trT t <;> cases hu : trT u <;> simp [List.findIdx?_cons, soT, ht, hu]
  have : [t, u][pickN true [t, u]]? = some (if trT t = true then t else u) := by
    rw [e]; cases trT t <;> rfl
  exact Option.some.inj ((List.getElem?_eq_getElem _).symm.trans this)

theorem truth_and {R : Nat → Prop} {t u : T} {sb : Nat} {cl : Nat → Array Value} (w : World) (hw : FnTab w) (h : SliceV w R [t, u] (some ⟨sb, 0, none⟩) 2 cl) (ht : t.str.size ≤ 65536) (hu : u.str.size ≤ 65536) :
    Calls Tryz.prog 29 #[.string ⟨#[97, 110, 100]⟩, .slice (some ⟨sb, 0, none⟩) 2 2] w (ValOut w (if trT t = true then u else t)) :=
  truths1_any _ _ _ _ _ w fun w1 h1 => calls_val (k := 1) (by decide) rfl (by decide) (by decide) (by split <;> assumption) w1 (hw.later h1) fun w2 h2 => by
    have h := fanswer_and w2 ((h.later h1).later h2) (by simp)
    rw [pick_and t u (by simp)] at h
    exact h
theorem truth_or {R : Nat → Prop} {t u : T} {sb : Nat} {cl : Nat → Array Value} (w : World) (hw : FnTab w) (h : SliceV w R [t, u] (some ⟨sb, 0, none⟩) 2 cl) (ht : t.str.size ≤ 65536) (hu : u.str.size ≤ 65536) :
    Calls Tryz.prog 29 #[.string ⟨#[111, 114]⟩, .slice (some ⟨sb, 0, none⟩) 2 2] w (ValOut w (if trT t = true then t else u)) :=
  truths1_any _ _ _ _ _ w fun w1 h1 => calls_val (k := 19) (by decide) rfl (by decide) (by decide) (by split <;> assumption) w1 (hw.later h1) fun w2 h2 => by
    have h := fanswer_or w2 ((h.later h1).later h2) (by simp)
    rw [pick_or t u (by simp)] at h
    exact h
theorem truth_default {R1 R2 : Nat → Prop} {t u : T} {a0 : Int} {a1 : Bool} {a2 : Int} {a3 : ByteArray} {a4 : Option Addr} {a4l a4c : Nat} {a5 : Option Addr} {a5l a5c : Nat} {b0 : Int} {b1 : Bool} {b2 : Int} {b3 : ByteArray} {b4 : Option Addr} {b4l b4c : Nat} {b5 : Option Addr} {b5l b5c : Nat} {sb : Nat} (w : World) (hw : FnTab w) (h : TwoV w sb (.int .i64 a0) (.bool a1) (.int .i64 a2) (.string a3) (.slice a4 a4l a4c) (.slice a5 a5l a5c) (.int .i64 b0) (.bool b1) (.int .i64 b2) (.string b3) (.slice b4 b4l b4c) (.slice b5 b5l b5c)) (h1 : Lies w R1 t #[.int .i64 a0, .bool a1, .int .i64 a2, .string a3, .slice a4 a4l a4c, .slice a5 a5l a5c]) (h2 : Lies w R2 u #[.int .i64 b0, .bool b1, .int .i64 b2, .string b3, .slice b4 b4l b4c, .slice b5 b5l b5c]) (ht : t.str.size ≤ 65536) (hu : u.str.size ≤ 65536) :
    Calls Tryz.prog 29 #[.string ⟨#[100, 101, 102, 97, 117, 108, 116]⟩, .slice (some ⟨sb, 0, none⟩) 2 2] w (ValOut w (if trT u = true then u else t)) :=
  truths1_any _ _ _ _ _ w fun w1 g1 => calls_val (k := 2) (by decide) rfl (by decide) (by decide) (by split <;> assumption) w1 (hw.later g1) fun w2 g2 => fanswer_default w2 sb ((h.later g1).later g2) ((h1.later g1).later g2) ((h2.later g1).later g2)
theorem truth_ternary {R1 R2 R3 : Nat → Prop} {t u x : T} {a0 : Int} {a1 : Bool} {a2 : Int} {a3 : ByteArray} {a4 : Option Addr} {a4l a4c : Nat} {a5 : Option Addr} {a5l a5c : Nat} {b0 : Int} {b1 : Bool} {b2 : Int} {b3 : ByteArray} {b4 : Option Addr} {b4l b4c : Nat} {b5 : Option Addr} {b5l b5c : Nat} {c0 : Int} {c1 : Bool} {c2 : Int} {c3 : ByteArray} {c4 : Option Addr} {c4l c4c : Nat} {c5 : Option Addr} {c5l c5c : Nat} {sb : Nat} (w : World) (hw : FnTab w) (h : ThreeV w sb (.int .i64 a0) (.bool a1) (.int .i64 a2) (.string a3) (.slice a4 a4l a4c) (.slice a5 a5l a5c) (.int .i64 b0) (.bool b1) (.int .i64 b2) (.string b3) (.slice b4 b4l b4c) (.slice b5 b5l b5c) (.int .i64 c0) (.bool c1) (.int .i64 c2) (.string c3) (.slice c4 c4l c4c) (.slice c5 c5l c5c)) (h1 : Lies w R1 t #[.int .i64 a0, .bool a1, .int .i64 a2, .string a3, .slice a4 a4l a4c, .slice a5 a5l a5c]) (h2 : Lies w R2 u #[.int .i64 b0, .bool b1, .int .i64 b2, .string b3, .slice b4 b4l b4c, .slice b5 b5l b5c]) (h3 : Lies w R3 x #[.int .i64 c0, .bool c1, .int .i64 c2, .string c3, .slice c4 c4l c4c, .slice c5 c5l c5c]) (ht : t.str.size ≤ 65536) (hu : u.str.size ≤ 65536) :
    Calls Tryz.prog 29 #[.string ⟨#[116, 101, 114, 110, 97, 114, 121]⟩, .slice (some ⟨sb, 0, none⟩) 3 3] w (ValOut w (if trT x = true then t else u)) :=
  truths1_any _ _ _ _ _ w fun w1 g1 => calls_val (k := 24) (by decide) rfl (by decide) (by decide) (by split <;> assumption) w1 (hw.later g1) fun w2 g2 => fanswer_ternary w2 sb ((h.later g1).later g2) ((h1.later g1).later g2) ((h2.later g1).later g2) ((h3.later g1).later g2)
theorem truth_eq {R1 R2 : Nat → Prop} {t u : T} {a0 : Int} {a1 : Bool} {a2 : Int} {a3 : ByteArray} {a4 : Option Addr} {a4l a4c : Nat} {a5 : Option Addr} {a5l a5c : Nat} {b0 : Int} {b1 : Bool} {b2 : Int} {b3 : ByteArray} {b4 : Option Addr} {b4l b4c : Nat} {b5 : Option Addr} {b5l b5c : Nat} {sb : Nat} (w : World) (hw : FnTab w) (h : TwoV w sb (.int .i64 a0) (.bool a1) (.int .i64 a2) (.string a3) (.slice a4 a4l a4c) (.slice a5 a5l a5c) (.int .i64 b0) (.bool b1) (.int .i64 b2) (.string b3) (.slice b4 b4l b4c) (.slice b5 b5l b5c)) (h1 : Lies w R1 t #[.int .i64 a0, .bool a1, .int .i64 a2, .string a3, .slice a4 a4l a4c, .slice a5 a5l a5c]) (h2 : Lies w R2 u #[.int .i64 b0, .bool b1, .int .i64 b2, .string b3, .slice b4 b4l b4c, .slice b5 b5l b5c]) :
    Calls Tryz.prog 29 #[.string ⟨#[101, 113]⟩, .slice (some ⟨sb, 0, none⟩) 2 2] w (ValOut w (boolT (T.cmp t u == 0))) :=
  truths1_any _ _ _ _ _ w fun w1 g1 => calls_val (k := 4) (by decide) rfl (by decide) (by decide) (boolT_size _) w1 (hw.later g1) fun w2 g2 => valIn_bool (fanswer_eq w2 sb ((h.later g1).later g2) ((h1.later g1).later g2) ((h2.later g1).later g2))
theorem truth_ne {R1 R2 : Nat → Prop} {t u : T} {a0 : Int} {a1 : Bool} {a2 : Int} {a3 : ByteArray} {a4 : Option Addr} {a4l a4c : Nat} {a5 : Option Addr} {a5l a5c : Nat} {b0 : Int} {b1 : Bool} {b2 : Int} {b3 : ByteArray} {b4 : Option Addr} {b4l b4c : Nat} {b5 : Option Addr} {b5l b5c : Nat} {sb : Nat} (w : World) (hw : FnTab w) (h : TwoV w sb (.int .i64 a0) (.bool a1) (.int .i64 a2) (.string a3) (.slice a4 a4l a4c) (.slice a5 a5l a5c) (.int .i64 b0) (.bool b1) (.int .i64 b2) (.string b3) (.slice b4 b4l b4c) (.slice b5 b5l b5c)) (h1 : Lies w R1 t #[.int .i64 a0, .bool a1, .int .i64 a2, .string a3, .slice a4 a4l a4c, .slice a5 a5l a5c]) (h2 : Lies w R2 u #[.int .i64 b0, .bool b1, .int .i64 b2, .string b3, .slice b4 b4l b4c, .slice b5 b5l b5c]) :
    Calls Tryz.prog 29 #[.string ⟨#[110, 101]⟩, .slice (some ⟨sb, 0, none⟩) 2 2] w (ValOut w (boolT (T.cmp t u != 0))) :=
  truths1_any _ _ _ _ _ w fun w1 g1 => calls_val (k := 16) (by decide) rfl (by decide) (by decide) (boolT_size _) w1 (hw.later g1) fun w2 g2 => valIn_bool (fanswer_ne w2 sb ((h.later g1).later g2) ((h1.later g1).later g2) ((h2.later g1).later g2))
theorem truth_lt {R1 R2 : Nat → Prop} {t u : T} {a0 : Int} {a1 : Bool} {a2 : Int} {a3 : ByteArray} {a4 : Option Addr} {a4l a4c : Nat} {a5 : Option Addr} {a5l a5c : Nat} {b0 : Int} {b1 : Bool} {b2 : Int} {b3 : ByteArray} {b4 : Option Addr} {b4l b4c : Nat} {b5 : Option Addr} {b5l b5c : Nat} {sb : Nat} (w : World) (hw : FnTab w) (h : TwoV w sb (.int .i64 a0) (.bool a1) (.int .i64 a2) (.string a3) (.slice a4 a4l a4c) (.slice a5 a5l a5c) (.int .i64 b0) (.bool b1) (.int .i64 b2) (.string b3) (.slice b4 b4l b4c) (.slice b5 b5l b5c)) (h1 : Lies w R1 t #[.int .i64 a0, .bool a1, .int .i64 a2, .string a3, .slice a4 a4l a4c, .slice a5 a5l a5c]) (h2 : Lies w R2 u #[.int .i64 b0, .bool b1, .int .i64 b2, .string b3, .slice b4 b4l b4c, .slice b5 b5l b5c]) :
    Calls Tryz.prog 29 #[.string ⟨#[108, 116]⟩, .slice (some ⟨sb, 0, none⟩) 2 2] w (ValOut w (boolT (decide (T.cmp t u < 0)))) :=
  truths1_any _ _ _ _ _ w fun w1 g1 => calls_val (k := 14) (by decide) rfl (by decide) (by decide) (boolT_size _) w1 (hw.later g1) fun w2 g2 => valIn_bool (fanswer_lt w2 sb ((h.later g1).later g2) ((h1.later g1).later g2) ((h2.later g1).later g2))
theorem truth_not {R1 : Nat → Prop} {t : T} {a0 : Int} {a1 : Bool} {a2 : Int} {a3 : ByteArray} {a4 : Option Addr} {a4l a4c : Nat} {a5 : Option Addr} {a5l a5c : Nat} {sb : Nat} (w : World) (hw : FnTab w) (h : Box6 w sb #[.int .i64 a0, .bool a1, .int .i64 a2, .string a3, .slice a4 a4l a4c, .slice a5 a5l a5c]) (hsb : sb < w.heap.size) (h1 : Lies w R1 t #[.int .i64 a0, .bool a1, .int .i64 a2, .string a3, .slice a4 a4l a4c, .slice a5 a5l a5c]) :
    Calls Tryz.prog 29 #[.string ⟨#[110, 111, 116]⟩, .slice (some ⟨sb, 0, none⟩) 1 1] w (ValOut w (boolT (!trT t))) :=
  truths1_any _ _ _ _ _ w fun w1 g1 => calls_val (k := 18) (by decide) rfl (by decide) (by decide) (boolT_size _) w1 (hw.later g1) fun w2 g2 => by
    have q1 := g1.size
    have q2 := g2.size
    exact valIn_bool (fanswer_not w2 sb ((h.later g1 hsb).later g2 (by omega)) (by omega) ((h1.later g1).later g2))

end Go.Proofs.YtkonkjaabkmecaaGreatDoor
