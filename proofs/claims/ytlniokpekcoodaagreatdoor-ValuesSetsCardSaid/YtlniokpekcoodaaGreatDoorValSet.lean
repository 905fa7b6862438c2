/-
  Package values' Set: a set laid over a value.
-/
import Derived.Test.YtlniokpekcoodaaGreatDoorValOverM
import Derived.Test.YtlniokpekcoodaaGreatDoorUnqAnyM
import Derived.Test.YtlniokpekcoodaaGreatDoorWordBM
import Derived.Test.YtlniokpekcoodaaGreatDoorSpecsEM
set_option linter.unusedVariables false
set_option linter.unusedSimpArgs false
namespace Go.Proofs.YtlniokpekcoodaaGreatDoor
open Go.RowKit

/-- The steps of a path that is written. -/
def stepsD (l : List UInt8) : List ByteArray := (parseD l).1.map fun x => ⟨x.toArray⟩
theorem steps_few (l : List UInt8) : (stepsD l).length ≤ 15 := by
  unfold stepsD parseD
  rw [List.length_map]
  split
  · simp
  · split
    · simp only; omega
    · simp
/-- What a set makes of a value. -/
def setR (t : T) (found : Bool) (p : List UInt8) (x : T) (c : Int) : T × Int :=
  if found = false then (T.nil, 10) else if (parseD p).2 ≠ 0 then (T.nil, (parseD p).2) else if c ≠ 0 then (T.nil, c) else overC (T.over t (putL (stepsD p) T.none5 x))

/-- A set as it is parted. -/
def CutAt (s : ByteArray) (p q : ByteArray) (found : Bool) : Prop := Lib.cut s.data.toList (⟨#[61]⟩ : ByteArray).data.toList = (p.data.toList, q.data.toList, found)

theorem sCut_at {s p q : ByteArray} {found : Bool} (h : CutAt s p q found) (hs : s.size ≤ 1000000) {w : World} {m : Int} (hm : w.cell? ⟨0, 0, none⟩ = some (.int .i64 m)) (h0 : 0 < w.heap.size) (w1 : World) (hb : Below w.heap.size w w1) :
    Calls Tryz.prog 28 #[.string s, .string ⟨#[61]⟩] w1 fun e w' => e = .returned (.tuple #[.string p, .string q, .bool found]) ∧ Below w1.heap.size w1 w' := by
  refine (Tryz.strings_Cut s ⟨#[61]⟩ m w1 (by omega) ((hb.cell (p := ⟨0, 0, none⟩) h0).trans hm)).mono ?_
  rintro e w' ⟨he, n, rfl⟩
  unfold CutAt at h
  rw [h] at he
  simp only [Lib.mk_data] at he
  exact ⟨he, bdrewN (Below.refl _ _) n⟩

theorem leafV (w : World) (k : Int) (b : Bool) (n : Int) (s : ByteArray) (hk : (Lit.int .i64 k).wf = true) (hn : (Lit.int .i64 n).wf = true) (hs : s.size ≤ 140737488355328) : Lies w (fun _ => True) (.mk k b n s [] []) #[.int .i64 k, .bool b, .int .i64 n, .string s, .slice none 0 0, .slice none 0 0] :=
  .mk k b n s [] [] none 0 none 0 (fun _ => #[]) (fun _ => #[]) hk hn hs ⟨by simp, by simp, fun _ => rfl, fun h => absurd h (by simp), by simp⟩ ⟨by simp, by simp, fun _ => rfl, fun h => absurd h (by simp), by simp⟩
    (fun i h => absurd h (by simp)) (fun i h => absurd h (by simp)) (fun i h => absurd h (by simp)) (fun i h => absurd h (by simp)) (fun i h => absurd h (by simp))

set_option maxRecDepth 100000 in
set_option maxHeartbeats 4000000 in
theorem vSet_any {w0 : World} {R : Nat → Prop} {t : T} {cs : Array Value} (h : Lies w0 R t cs) (hts : t.size ≤ 900000) (w : World) (hw : Below w0.heap.size w0 w) (s p q : ByteArray) (found : Bool) (hs : s.size ≤ 1000000) (hcut : CutAt s p q found) (m : Int) (hm : w.cell? ⟨0, 0, none⟩ = some (.int .i64 m)) (h0 : 0 < w.heap.size)
    (k : Int) (b : Bool) (n : Int) (sx : ByteArray) (c : Int) (hk : (Lit.int .i64 k).wf = true) (hn : (Lit.int .i64 n).wf = true) (hx : sx.size ≤ 140737488355328) (hp : p.size ≤ 1000000)
    (HWD : found = true → ∀ w1, Below w.heap.size w w1 → Calls Tryz.prog 19 #[.string q] w1 (ParseTo w1 (six k b n sx) c)) :
    Calls Tryz.prog 10 #[.agg cs, .string s] w (SetIn w (setR t found p.data.toList (.mk k b n sx [] []) c)) := by
  obtain ⟨c0, c1, c2, c3, c4, c4l, c4c, c5, c5l, c5c, rfl⟩ := h.six
  have H := Lib.hid h
  have CUT := Lib.hid (fun w1 hb => sCut_at hcut hs hm h0 w1 hb)
  have PP : Hid (∀ w1, Below w.heap.size w w1 → Calls Tryz.prog 29 #[.string p] w1 (Parsed w1 p.data.toList)) := fun w1 hb => pParse_any p hp m w1 ((hb.cell (p := ⟨0, 0, none⟩) h0).trans hm)
  have HWQ := Lib.hid HWD
  obtain ⟨dd, hu, hdd⟩ := Tryz.structV
  have DD := Lib.hid hdd
  have HU := Lib.hid hu
  have hb2 : Below w.heap.size w ((w.alloc (.cells #[.int .i64 c0, .bool c1, .int .i64 c2, .string c3, .slice c4 c4l c4c, .slice c5 c5l c5c] 25)).alloc (.cells zeroV 25)) := ((Below.refl _ _).alloc (Nat.le_refl _) _).alloc (by simp) _
  have b1 : Box6 ((w.alloc (.cells #[.int .i64 c0, .bool c1, .int .i64 c2, .string c3, .slice c4 c4l c4c, .slice c5 c5l c5c] 25)).alloc (.cells zeroV 25)) w.heap.size #[.int .i64 c0, .bool c1, .int .i64 c2, .string c3, .slice c4 c4l c4c, .slice c5 c5l c5c] := (Box6.new w _ 25).later ((Below.refl (w.heap.size + 1) _).alloc (by simp) _) (by omega)
  have b3 := Box6.new (w.alloc (.cells #[.int .i64 c0, .bool c1, .int .i64 c2, .string c3, .slice c4 c4l c4c, .slice c5 c5l c5c] 25)) zeroV 25
  have t3 := Thaw.new (w.alloc (.cells #[.int .i64 c0, .bool c1, .int .i64 c2, .string c3, .slice c4 c4l c4c, .slice c5 c5l c5c] 25)) zeroV 25
  rw [World.size_alloc] at b3 t3
  have es2 : ((w.alloc (.cells #[.int .i64 c0, .bool c1, .int .i64 c2, .string c3, .slice c4 c4l c4c, .slice c5 c5l c5c] 25)).alloc (.cells zeroV 25)).heap.size = w.heap.size + 2 := by simp
  have HB2 := Lib.hid hb2
  have B1 := Lib.hid b1
  have BZ := Lib.hid b3
  have TZ := Lib.hid t3
  have ES2 := Lib.hid es2
  have HX := Lib.hid hx
  have HK := Lib.hid hk
  have HN := Lib.hid hn
  have HTS := Lib.hid hts
  clear hdd hu h hcut hm HWD hb2 b1 b3 t3 es2 hx hk hn hts
  obtain ⟨r, hr⟩ : ∃ r, r = setR t found p.data.toList (.mk k b n sx [] []) c := ⟨_, rfl⟩
  rw [← hr]
  cases found with
  | false =>
    have HR : Hid (r = (T.nil, 10)) := by show _ = _; rw [hr, setR, if_pos rfl]
    clear hr HWQ
    go_enter Tryz.func10, Tryz.ntmps10
    go_upto_region 1 with fail
    generalize ((w.alloc (.cells #[.int .i64 c0, .bool c1, .int .i64 c2, .string c3, .slice c4 c4l c4c, .slice c5 c5l c5c] 25)).alloc (.cells zeroV 25)) = v at *
    have hvs := Nat.le_of_eq ES2.out.symm
    have HWV := Lib.hid (bstep hw HB2.out hw.size)
    go_upto_region 2 with (go_at_call 28; refine (CUT.out _ HB2.out).mono ?_; rintro e w1 ⟨rfl, hb⟩; have HB3 := Lib.hid hb; clear hb)
    obtain ⟨z0, z1, z2, z3, z4, z5⟩ := (BZ.out.later HB3.out (by omega)).six
    obtain ⟨f0, f1, f2, f3, f4, f5⟩ := (TZ.out.later HB3.out (by omega)).six
    go_wp2_with fail
    all_goals
      refine ret_cells_tmp w1 (w.heap.size + 1) zeroV.toList rfl Tryz.results10 rfl rfl DD.out HU.out Tryz.sizeV (box6_cells (BZ.out.later HB3.out (by omega)) rfl) ?_
      have hbf := setRow_below (w.heap.size + 1) (by omega) zeroV.toList w1 0 (bstep HB2.out HB3.out HB2.out.size)
      generalize setRow w1 (w.heap.size + 1) 0 zeroV.toList = v2 at hbf ⊢
      rw [HR.out]
      exact ⟨_, rfl, nil_lies _ _, hbf⟩
  | true =>
  have HWT := Lib.hid (HWQ.out rfl)
  clear HWQ
  obtain ⟨pc, hpc⟩ : ∃ pc, pc = (parseD p.data.toList).2 := ⟨_, rfl⟩
  unfold Parsed at PP
  rw [setR, if_neg (by simp), ← hpc] at hr
  rw [← hpc] at PP
  by_cases hp0 : pc = 0
  case neg =>
    have HR : Hid (r = (T.nil, pc)) := by show _ = _; rw [hr, if_pos hp0]
    have g1 : (pc == 0) = false := by rw [beq_eq_false_iff_ne]; exact hp0
    have g2 : (pc != 0) = true := by rw [bne_iff_ne]; exact hp0
    clear hr hp0 hpc
    go_enter Tryz.func10, Tryz.ntmps10
    go_upto_region 1 with fail
    generalize ((w.alloc (.cells #[.int .i64 c0, .bool c1, .int .i64 c2, .string c3, .slice c4 c4l c4c, .slice c5 c5l c5c] 25)).alloc (.cells zeroV 25)) = v at *
    have hvs := Nat.le_of_eq ES2.out.symm
    have HWV := Lib.hid (bstep hw HB2.out hw.size)
    go_upto_region 5 with (first
      | (go_at_call 28; refine (CUT.out _ HB2.out).mono ?_; rintro e w1 ⟨rfl, hb⟩; have HB3 := Lib.hid hb; clear hb)
      | (go_at_call 29; refine (PP.out _ (bstep HB2.out HB3.out HB2.out.size)).mono ?_; rintro e w2 ⟨ks, ka, kc, rfl, hS, hdat, hb⟩; have HB4 := Lib.hid (bstep HB3.out hb HB3.out.size); clear hb hS hdat))
    obtain ⟨z0, z1, z2, z3, z4, z5⟩ := (BZ.out.later HB4.out (by omega)).six
    obtain ⟨f0, f1, f2, f3, f4, f5⟩ := (TZ.out.later HB4.out (by omega)).six
    go_wp2_with fail
    all_goals
      refine ret_cells_tmp w2 (w.heap.size + 1) zeroV.toList rfl Tryz.results10 rfl rfl DD.out HU.out Tryz.sizeV (box6_cells (BZ.out.later HB4.out (by omega)) rfl) ?_
      have hbf := setRow_below (w.heap.size + 1) (by omega) zeroV.toList w2 0 (bstep HB2.out HB4.out HB2.out.size)
      generalize setRow w2 (w.heap.size + 1) 0 zeroV.toList = v2 at hbf ⊢
      rw [HR.out]
      exact ⟨_, rfl, nil_lies _ _, hbf⟩
  subst hp0
  rw [if_neg (by simp)] at hr
  have HPC := Lib.hid hpc
  clear hpc
  by_cases hc0 : c = 0
  case neg =>
    have HR : Hid (r = (T.nil, c)) := by show _ = _; rw [hr, if_pos hc0]
    have g1 : (c == 0) = false := by rw [beq_eq_false_iff_ne]; exact hc0
    have g2 : (c != 0) = true := by rw [bne_iff_ne]; exact hc0
    clear hr hc0
    go_enter Tryz.func10, Tryz.ntmps10
    go_upto_region 1 with fail
    generalize ((w.alloc (.cells #[.int .i64 c0, .bool c1, .int .i64 c2, .string c3, .slice c4 c4l c4c, .slice c5 c5l c5c] 25)).alloc (.cells zeroV 25)) = v at *
    have hvs := Nat.le_of_eq ES2.out.symm
    have HWV := Lib.hid (bstep hw HB2.out hw.size)
    go_upto_region 8 with (first
      | (go_at_call 28; refine (CUT.out _ HB2.out).mono ?_; rintro e w1 ⟨rfl, hb⟩; have HB3 := Lib.hid hb; clear hb)
      | (go_at_call 29; refine (PP.out _ (bstep HB2.out HB3.out HB2.out.size)).mono ?_; rintro e w2 ⟨ks, ka, kc, rfl, hS, hdat, hb⟩; have HB4 := Lib.hid (bstep HB3.out hb HB3.out.size); clear hb hS hdat)
      | (go_at_call 19; refine (HWT.out _ (bstep HB2.out HB4.out HB2.out.size)).mono ?_; rintro e w3 ⟨rfl, hb⟩; have HB5 := Lib.hid hb; clear hb))
    have hb6 : Below v.heap.size v (w3.alloc (.cells #[.int .i64 k, .bool b, .int .i64 n, .string sx, .slice none 0 0, .slice none 0 0] 25)) := (bstep HB4.out HB5.out HB4.out.size).alloc (bstep HB4.out HB5.out HB4.out.size).size _
    have HB6 := Lib.hid hb6
    have BX := Lib.hid (Box6.new w3 #[.int .i64 k, .bool b, .int .i64 n, .string sx, .slice none 0 0, .slice none 0 0] 25)
    have hz : w3.heap.size < (w3.alloc (.cells #[.int .i64 k, .bool b, .int .i64 n, .string sx, .slice none 0 0, .slice none 0 0] 25)).heap.size := by simp
    have HZ := Lib.hid hz
    clear hb6 hz
    generalize w3.alloc (.cells #[.int .i64 k, .bool b, .int .i64 n, .string sx, .slice none 0 0, .slice none 0 0] 25) = w4 at *
    obtain ⟨z0, z1, z2, z3, z4, z5⟩ := (BZ.out.later HB6.out (by omega)).six
    obtain ⟨f0, f1, f2, f3, f4, f5⟩ := (TZ.out.later HB6.out (by omega)).six
    go_wp2_with fail
    all_goals
      refine ret_cells_tmp w4 (w.heap.size + 1) zeroV.toList rfl Tryz.results10 rfl rfl DD.out HU.out Tryz.sizeV (box6_cells (BZ.out.later HB6.out (by omega)) rfl) ?_
      have hbf := setRow_below (w.heap.size + 1) (by omega) zeroV.toList w4 0 (bstep HB2.out HB6.out HB2.out.size)
      generalize setRow w4 (w.heap.size + 1) 0 zeroV.toList = v2 at hbf ⊢
      rw [HR.out]
      exact ⟨_, rfl, nil_lies _ _, hbf⟩
  subst hc0
  rw [if_neg (by simp)] at hr
  · obtain ⟨ks', hks⟩ : ∃ ks', ks' = stepsD p.data.toList := ⟨_, rfl⟩
    have hkl : ks'.length ≤ 15 := by rw [hks]; exact steps_few _
    rw [← hks] at hr
    have HKS := Lib.hid hks
    have hzz := putL_size ks' T.none5 (.mk k b n sx [] [])
    have hz5 : T.none5.size = 1 := by rw [T.none5, T.size_mk]; rfl
    have HZ5 := Lib.hid hz5
    have hz1 : (T.mk k b n sx [] []).size = 1 := by rw [T.size_mk]; rfl
    rw [hz5, hz1] at hzz
    obtain ⟨U, hU⟩ : ∃ U, U = putL ks' T.none5 (.mk k b n sx [] []) := ⟨_, rfl⟩
    rw [← hU] at hr hzz
    have HUU := Lib.hid hU
    have huz : U.size ≤ 1000000 := by omega
    have HUZ := Lib.hid huz
    have HKL := Lib.hid hkl
    obtain ⟨rt, rc⟩ := r
    have HR := Lib.hid hr
    clear hr hks hzz hz5 hz1 hU huz hkl
    go_enter Tryz.func10, Tryz.ntmps10
    go_upto_region 1 with fail
    generalize ((w.alloc (.cells #[.int .i64 c0, .bool c1, .int .i64 c2, .string c3, .slice c4 c4l c4c, .slice c5 c5l c5c] 25)).alloc (.cells zeroV 25)) = v at *
    have hvs := Nat.le_of_eq ES2.out.symm
    have HWV := Lib.hid (bstep hw HB2.out hw.size)
    go_upto_region 8 with (first
      | (go_at_call 28; refine (CUT.out _ HB2.out).mono ?_; rintro e w1 ⟨rfl, hb⟩; have HB3 := Lib.hid hb; clear hb)
      | (go_at_call 29; refine (PP.out _ (bstep HB2.out HB3.out HB2.out.size)).mono ?_; rintro e w2 ⟨ks, ka, kc, rfl, hS, hdat, hb⟩; have HB4 := Lib.hid (bstep HB3.out hb HB3.out.size); have HS := Lib.hid hS; have HD := Lib.hid hdat; clear hb hS hdat)
      | (go_at_call 19; refine (HWT.out _ (bstep HB2.out HB4.out HB2.out.size)).mono ?_; rintro e w3 ⟨rfl, hb⟩; have HB5 := Lib.hid hb; clear hb))
    obtain rfl : ks = ks' := by
      rw [HKS.out]
      exact dat_inj HD.out
    have hb6 : Below v.heap.size v (w3.alloc (.cells #[.int .i64 k, .bool b, .int .i64 n, .string sx, .slice none 0 0, .slice none 0 0] 25)) := (bstep HB4.out HB5.out HB4.out.size).alloc (bstep HB4.out HB5.out HB4.out.size).size _
    have HB6 := Lib.hid hb6
    have BX := Lib.hid (Box6.new w3 #[.int .i64 k, .bool b, .int .i64 n, .string sx, .slice none 0 0, .slice none 0 0] 25)
    have hz : w3.heap.size < (w3.alloc (.cells #[.int .i64 k, .bool b, .int .i64 n, .string sx, .slice none 0 0, .slice none 0 0] 25)).heap.size := by simp
    have HZ := Lib.hid hz
    have HS4 := Lib.hid ((HS.out.later HB5.out).later ((Below.refl _ _).alloc (Nat.le_refl _) (.cells #[.int .i64 k, .bool b, .int .i64 n, .string sx, .slice none 0 0, .slice none 0 0] 25)))
    clear hb6 hz
    generalize w3.alloc (.cells #[.int .i64 k, .bool b, .int .i64 n, .string sx, .slice none 0 0, .slice none 0 0] 25) = w4 at *
    obtain ⟨p0, p1, p2, p3, p4, p5⟩ := (B1.out.later HB6.out (by omega)).six
    obtain ⟨q0, q1, q2, q3, q4, q5⟩ := BX.out.six
    have BZ4 := Lib.hid (BZ.out.later HB6.out (by omega))
    have TZ4 := Lib.hid (TZ.out.later HB6.out (by omega))
    have hv4 := HB6.out.size
    have H4 := Lib.hid (H.out.later (bstep HWV.out HB6.out HWV.out.size))
    have PPT : Hid (∀ w1, Below w4.heap.size w4 w1 → Calls Tryz.prog 31 #[.agg #[.int .i64 5, .bool false, .int .i64 0, .string ⟨#[]⟩, .slice none 0 0, .slice none 0 0], .agg #[.int .i64 k, .bool b, .int .i64 n, .string sx, .slice none 0 0, .slice none 0 0], .slice ka ks.length kc] w1 (PutIn w1 U)) := fun w1 hb => by
      rw [HUU.out]
      exact pPut_any (none5_lies w4 (fun _ => True)) (leafV w4 k b n sx HK.out HN.out HX.out) HS4.out (by have := HKL.out; omega) (by rw [HZ5.out]; omega) w1 hb
    have VOV : Hid (∀ w1 es, Below w4.heap.size w4 w1 → Lies w1 (fun b => w4.heap.size ≤ b) U es → Calls Tryz.prog 30 #[.agg #[.int .i64 c0, .bool c1, .int .i64 c2, .string c3, .slice c4 c4l c4c, .slice c5 c5l c5c], .agg es] w1 (SetIn w1 (rt, rc))) := fun w1 es hb hL => by
      rw [HR.out]
      exact vover_any (H4.out.later hb) hL w1 (Below.refl _ _) (by have := HTS.out; omega) HUZ.out
    go_upto_region 10 with fail
    refine wp_region_specs4 w4 8 (fun i => match i with | 0 => 39 | 1 => 40 | 2 => 41 | 3 => 42 | 4 => 43 | 5 => 44 | 6 => 45 | 7 => 46 | 8 => 5 | _ => 0) (fun i x wx => match i with | 0 => x = .agg #[.int .i64 c0, .bool c1, .int .i64 c2, .string c3, .slice c4 c4l c4c, .slice c5 c5l c5c] | 1 => x = .agg #[.int .i64 5, .bool false, .int .i64 0, .string ⟨#[]⟩, .slice none 0 0, .slice none 0 0] | 2 => x = .agg #[.int .i64 k, .bool b, .int .i64 n, .string sx, .slice none 0 0, .slice none 0 0] | 3 => x = .slice ka ks.length kc | 4 => ∃ es : Array Value, x = .agg es ∧ Lies wx (fun b => w4.heap.size ≤ b) U es | 5 => ∃ es : Array Value, x = .tuple #[.agg es, .int .i64 rc] ∧ Lies wx (fun b => w4.heap.size ≤ b) rt es | 6 => ∃ es : Array Value, x = .agg es ∧ Lies wx (fun b => w4.heap.size ≤ b) rt es | 7 => x = .int .i64 rc | _ => True) (fun i x => match i with | 0 => x = .agg #[.int .i64 c0, .bool c1, .int .i64 c2, .string c3, .slice c4 c4l c4c, .slice c5 c5l c5c] | 1 => x = .agg #[.int .i64 5, .bool false, .int .i64 0, .string ⟨#[]⟩, .slice none 0 0, .slice none 0 0] | 2 => x = .agg #[.int .i64 k, .bool b, .int .i64 n, .string sx, .slice none 0 0, .slice none 0 0] | 3 => x = .slice ka ks.length kc | 4 => True | 5 => True | 6 => True | 7 => x = .int .i64 rc | _ => True) (fun wx => ∃ (vs : List Value) (wb : World), vs.length = 6 ∧ Below w4.heap.size w4 wb ∧ Lies wb (fun b => w4.heap.size ≤ b) rt vs.toArray ∧ wx = setRow wb (w.heap.size + 1) 0 vs) (fun x wx => x = .int .i64 rc ∧ ∃ (vs : List Value) (wb : World), vs.length = 6 ∧ Below w4.heap.size w4 wb ∧ Lies wb (fun b => w4.heap.size ≤ b) rt vs.toArray ∧ wx = setRow wb (w.heap.size + 1) 0 vs) (by kernel_rfl) (by kernel_rfl) ?s1 (Below.refl _ _) ?s2 ?sv ?s3 ?s4 ?s4b ?s5
    case s1 => intro i hi; rcases (by omega : i = 0 ∨ i = 1 ∨ i = 2 ∨ i = 3 ∨ i = 4 ∨ i = 5 ∨ i = 6 ∨ i = 7 ∨ i = 8) with rfl | rfl | rfl | rfl | rfl | rfl | rfl | rfl | rfl <;> exact Nat.lt_of_lt_of_le (by decide : _ < 47) (Nat.le_refl 47)
    case s2 =>
      intro i x w1 w2 hb hU
      match i, hU with
      | 1, h => exact h
      | 4, ⟨es, e, hL⟩ => exact ⟨es, e, hL.later hb⟩
      | 5, ⟨es, e, hL⟩ => exact ⟨es, e, hL.later hb⟩
      | 6, ⟨es, e, hL⟩ => exact ⟨es, e, hL.later hb⟩
      | 0, h | 2, h | 3, h | 7, h => exact h
      | (n + 8), _ => trivial
    case sv =>
      intro i x w1 hi hU
      match i, hU with
      | 1, h => exact h
      | 4, _ => trivial
      | 5, _ => trivial
      | 6, _ => trivial
      | 0, h | 2, h | 3, h | 7, h => exact h
      | (n + 8), _ => trivial
    case s3 =>
      intro i o ac wb K' ho hi hA hB hdep hK
      have sv2 : ac.tmps[2]?.getD undef = .pointer (some ⟨w.heap.size, 0, none⟩) := hA.sl (t := 2) (by decide)
      have sv4 : ac.tmps[4]?.getD undef = .pointer (some ⟨w.heap.size + 1, 0, none⟩) := hA.sl (t := 4) (by decide)
      have sv9 : ac.tmps[9]?.getD undef = .slice ka ks.length kc := hA.sl (t := 9) (by decide)
      have sv11 : ac.tmps[11]?.getD undef = .pointer (some ⟨w3.heap.size, 0, none⟩) := hA.sl (t := 11) (by decide)
      have p0 := cells_frame hB p0
      have p1 := cells_frame hB p1
      have p2 := cells_frame hB p2
      have p3 := cells_frame hB p3
      have p4 := cells_frame hB p4
      have p5 := cells_frame hB p5
      have q0 := cells_frame hB q0
      have q1 := cells_frame hB q1
      have q2 := cells_frame hB q2
      have q3 := cells_frame hB q3
      have q4 := cells_frame hB q4
      have q5 := cells_frame hB q5
      rcases (by omega : i = 0 ∨ i = 1 ∨ i = 2 ∨ i = 3 ∨ i = 4 ∨ i = 5 ∨ i = 6 ∨ i = 7) with rfl | rfl | rfl | rfl | rfl | rfl | rfl | rfl
      · simp at ho
        subst ho
        clear hdep hA
        go_simp
        exact hK _ wb (Below.refl _ _) rfl
      · simp at ho
        subst ho
        clear hdep hA
        go_simp
        refine (tMap_nil wb).mono ?_
        rintro e w5 ⟨rfl, hb5⟩
        exact hK _ w5 hb5 rfl
      · simp at ho
        subst ho
        clear hdep hA
        go_simp
        exact hK _ wb (Below.refl _ _) rfl
      · simp at ho
        subst ho
        clear hdep hA
        go_simp
        exact hK _ wb (Below.refl _ _) rfl
      · simp at ho
        subst ho
        have y1 : ac.tmps[40]?.getD undef = .agg #[.int .i64 5, .bool false, .int .i64 0, .string ⟨#[]⟩, .slice none 0 0, .slice none 0 0] := hdep { on := 1, ground := .data } (by simp) rfl
        have y2 : ac.tmps[41]?.getD undef = .agg #[.int .i64 k, .bool b, .int .i64 n, .string sx, .slice none 0 0, .slice none 0 0] := hdep { on := 2, ground := .data } (by simp) rfl
        have y3 : ac.tmps[42]?.getD undef = .slice ka ks.length kc := hdep { on := 3, ground := .data } (by simp) rfl
        clear hdep hA
        go_simp
        refine (PPT.out wb hB).mono ?_
        rintro e w5 ⟨es, rfl, hL, hb5⟩
        have hsB := hB.size
        exact hK _ w5 hb5 ⟨es, rfl, hL.weaken fun b hb => by omega⟩
      · simp at ho
        subst ho
        have y0 : ac.tmps[39]?.getD undef = .agg #[.int .i64 c0, .bool c1, .int .i64 c2, .string c3, .slice c4 c4l c4c, .slice c5 c5l c5c] := hdep { on := 0, ground := .data } (by simp) rfl
        obtain ⟨esy4, y4, hLy4⟩ := hdep { on := 4, ground := .data } (by simp) rfl
        obtain ⟨e0, e1, e2, e3, e4, e4l, e4c, e5, e5l, e5c, rfl⟩ := hLy4.six
        have y4 : ac.tmps[43]?.getD undef = _ := y4
        clear hdep hA
        go_simp
        refine (VOV.out wb _ hB hLy4).mono ?_
        rintro e w5 ⟨es, rfl, hL, hb5⟩
        have hsB := hB.size
        exact hK _ w5 hb5 ⟨es, rfl, hL.weaken fun b hb => by omega⟩
      · simp at ho
        subst ho
        obtain ⟨esy5, y5, hLy5⟩ := hdep { on := 5, ground := .data } (by simp) rfl
        obtain ⟨g0, g1, g2, g3, g4, g4l, g4c, g5, g5l, g5c, rfl⟩ := hLy5.six
        have y5 : ac.tmps[44]?.getD undef = _ := y5
        clear hdep hA
        go_simp
        exact hK _ wb (Below.refl _ _) ⟨_, rfl, hLy5⟩
      · simp at ho
        subst ho
        obtain ⟨esy5, y5, hLy5⟩ := hdep { on := 5, ground := .data } (by simp) rfl
        obtain ⟨g0, g1, g2, g3, g4, g4l, g4c, g5, g5l, g5c, rfl⟩ := hLy5.six
        have y5 : ac.tmps[44]?.getD undef = _ := y5
        clear hdep hA
        go_simp
        exact hK _ wb (Below.refl _ _) rfl
    case s4 =>
      intro o ac wb K' ho hA hB hU hK
      have sv2 : ac.tmps[2]?.getD undef = .pointer (some ⟨w.heap.size, 0, none⟩) := hA.sl (t := 2) (by decide)
      have sv4 : ac.tmps[4]?.getD undef = .pointer (some ⟨w.heap.size + 1, 0, none⟩) := hA.sl (t := 4) (by decide)
      have sv9 : ac.tmps[9]?.getD undef = .slice ka ks.length kc := hA.sl (t := 9) (by decide)
      have sv11 : ac.tmps[11]?.getD undef = .pointer (some ⟨w3.heap.size, 0, none⟩) := hA.sl (t := 11) (by decide)
      have p0 := cells_frame hB p0
      have p1 := cells_frame hB p1
      have p2 := cells_frame hB p2
      have p3 := cells_frame hB p3
      have p4 := cells_frame hB p4
      have p5 := cells_frame hB p5
      have q0 := cells_frame hB q0
      have q1 := cells_frame hB q1
      have q2 := cells_frame hB q2
      have q3 := cells_frame hB q3
      have q4 := cells_frame hB q4
      have q5 := cells_frame hB q5
      simp at ho
      subst ho
      obtain ⟨esy6, y6, hLy6⟩ := hU 6 (by omega)
      obtain ⟨m0, m1, m2, m3, m4, m4l, m4c, m5, m5l, m5c, rfl⟩ := hLy6.six
      have y6 : ac.tmps[45]?.getD undef = _ := y6
      clear hU hA
      obtain ⟨c0', c1', c2', c3', c4', c5'⟩ := (BZ4.out.later hB (by omega)).six
      obtain ⟨f0, f1, f2, f3, f4, f5⟩ := (TZ4.out.later hB (by omega)).six
      go_simp
      exact hK _ ⟨[.int .i64 m0, .bool m1, .int .i64 m2, .string m3, .slice m4 m4l m4c, .slice m5 m5l m5c], wb, rfl, hB, hLy6, rfl⟩
    case s4b =>
      intro o ac wb K' ho hA hVV hF hK
      have sv2 : ac.tmps[2]?.getD undef = .pointer (some ⟨w.heap.size, 0, none⟩) := hA.sl (t := 2) (by decide)
      have sv4 : ac.tmps[4]?.getD undef = .pointer (some ⟨w.heap.size + 1, 0, none⟩) := hA.sl (t := 4) (by decide)
      have sv9 : ac.tmps[9]?.getD undef = .slice ka ks.length kc := hA.sl (t := 9) (by decide)
      have sv11 : ac.tmps[11]?.getD undef = .pointer (some ⟨w3.heap.size, 0, none⟩) := hA.sl (t := 11) (by decide)
      simp at ho
      subst ho
      have y7 : ac.tmps[46]?.getD undef = .int .i64 rc := hVV 7 (by omega)
      clear hVV hA
      go_simp
      exact hK _ _ ⟨rfl, hF⟩
    case s5 =>
      intro ac wn hA hVV hF
      have hs : slots 9 (fun i => match i with | 0 => 39 | 1 => 40 | 2 => 41 | 3 => 42 | 4 => 43 | 5 => 44 | 6 => 45 | 7 => 46 | 8 => 5 | _ => 0) = [39, 40, 41, 42, 43, 44, 45, 46, 5] := by rfl
      rw [hs] at hA
      have hac := hA.act (fun t ht => by
        have h8 : t = 39 ∨ t = 40 ∨ t = 41 ∨ t = 42 ∨ t = 43 ∨ t = 44 ∨ t = 45 ∨ t = 46 ∨ t = 5 := by simpa using ht
        rcases h8 with rfl | rfl | rfl | rfl | rfl | rfl | rfl | rfl | rfl <;> exact Nat.lt_of_lt_of_le (by decide : _ < 47) (Nat.le_refl 47))
      rw [List.foldl_cons, List.foldl_cons, List.foldl_cons, List.foldl_cons, List.foldl_cons, List.foldl_cons, List.foldl_cons, List.foldl_cons, List.foldl_cons, List.foldl_nil] at hac
      generalize sl ac 39 = x39 at hac
      generalize sl ac 40 = x40 at hac
      generalize sl ac 41 = x41 at hac
      generalize sl ac 42 = x42 at hac
      generalize sl ac 43 = x43 at hac
      generalize sl ac 44 = x44 at hac
      generalize sl ac 45 = x45 at hac
      generalize sl ac 46 = x46 at hac
      generalize sl ac 5 = x5 at hac hF
      clear hA hs hVV
      subst hac
      simp only [Act.put, List.setIfInBounds_toArray, List.set_cons_succ, List.set_cons_zero]
      obtain ⟨rfl, vs, w5, hlen, hb5, hl5, rfl⟩ := hF
      have HV5 := Lib.hid hb5
      have HL5 := Lib.hid hl5
      have HLEN := Lib.hid hlen
      clear hb5 hl5 hlen
      generalize hW : setRow w5 (w.heap.size + 1) 0 vs = W5
      have HW := Lib.hid hW.symm
      clear hW
      go_wp2_with fail
      refine ret_cells_tmp w5 (w.heap.size + 1) vs HW.out Tryz.results10 rfl rfl DD.out HU.out (by rw [HLEN.out]; exact Tryz.sizeV) (fun i hi => box6_cells (BZ4.out.later HV5.out (by omega)) rfl i (by rw [← HLEN.out]; exact hi)) ?_
      have hbf := setRow_below (w.heap.size + 1) (by omega) vs w5 0 (bstep HB2.out (bstep HB6.out HV5.out HB6.out.size) HB2.out.size)
      have hl := HL5.out.keep (w' := setRow w5 (w.heap.size + 1) 0 vs) (fun b hb => setRow_heap _ _ _ _ _ (by omega))
      generalize setRow w5 (w.heap.size + 1) 0 vs = v2 at hbf hl ⊢
      exact ⟨_, rfl, hl.weaken (fun b hb => by omega), hbf⟩

end Go.Proofs.YtlniokpekcoodaaGreatDoor
