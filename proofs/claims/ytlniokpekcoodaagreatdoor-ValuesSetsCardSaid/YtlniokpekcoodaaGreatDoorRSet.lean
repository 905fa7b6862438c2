/-
  The reference's Set.
-/
import Derived.Test.YtlniokpekcoodaaGreatDoorSplitSM
import Derived.Test.YtlniokpekcoodaaGreatDoorTwoP
import Derived.Test.YtlniokpekcoodaaGreatDoorLeastM
import Derived.Test.YtlniokpekcoodaaGreatDoorROverV
import Derived.Test.YtlniokpekcoodaaGreatDoorR2Put
import Derived.Test.YtlniokpekcoodaaGreatDoorRWordP
import Derived.Test.YtlniokpekcoodaaGreatDoorPathEM
import Derived.Test.YtlniokpekcoodaaGreatDoorValRight
set_option linter.unusedVariables false
set_option linter.unusedSimpArgs false
namespace Go.Proofs.YtlniokpekcoodaaGreatDoor
open Go.RowKit

def RSetIn (w : World) (r : T × Int) (e : Ending) (w' : World) : Prop := ∃ ds, e = .returned (.tuple #[.agg ds, .int .i64 r.2]) ∧ Lies w' (fun _ => True) r.1 ds ∧ Below w.heap.size w w'
theorem none5_parts : T.none5.parts = 0 := by rw [T.none5, T.parts_mk]; kernel_rfl
theorem lies_setRowT {w : World} {g : Nat} {t : T} {cs : Array Value} (vs : List Value) (h : Lies w (fun b => b ≠ g) t cs) : Lies (setRow w g 0 vs) (fun _ => True) t cs :=
  (h.keep (fun b hb => setRow_heap _ _ _ _ _ hb)).weaken fun b hb => trivial

theorem lies_setRowX {w : World} {g e : Nat} {t : T} {cs : Array Value} (vs : List Value) (h : Lies w (fun b => b ≠ g ∧ b ≠ e) t cs) : Lies (setRow w g 0 vs) (fun b => b ≠ e) t cs :=
  (h.keep (fun b hb => setRow_heap _ _ _ _ _ hb.1)).weaken fun b hb => hb.2
/-- No pair lies in a variable that was just made. -/
theorem path_apart {w : World} {g : Nat} (hz : ZB w g) : ∀ (ks : List ByteArray) {R : Nat → Prop} {x : T} {cs : Array Value}, x.list = [] → x.map = [] → Lies w R (pathU ks x) cs → Lies w (fun b => b ≠ g) (pathU ks x) cs
  | [], R, x, cs, h1, h2, h => by
    obtain ⟨k, b, n, s, l, m⟩ := x
    obtain rfl : l = [] := h1
    obtain rfl : m = [] := h2
    cases h with
    | mk k b n s l m la lc ma mc cl cm hk hn hs hl hm rl rm ks il im =>
      exact .mk k b n s [] [] la lc ma mc cl cm hk hn hs ⟨hl.le, hl.big, hl.none, fun h => absurd h (by simp), hl.max⟩ ⟨hm.le, hm.big, hm.none, fun h => absurd h (by simp), hm.max⟩ rl rm ks (fun i h => absurd h (by simp)) (fun i h => absurd h (by simp))
  | key :: r, R, x, cs, h1, h2, h => by
    rw [pathU] at h ⊢
    cases h with
    | mk k b n s l m la lc ma mc cl cm hk hn hs hl hm rl rm ks il im =>
      refine .mk 5 false 0 ⟨#[]⟩ [] [(key, pathU r x)] la lc ma mc cl cm hk hn hs ⟨hl.le, hl.big, hl.none, fun h => absurd h (by simp), hl.max⟩ ⟨hm.le, hm.big, hm.none, fun h0 => ?_, hm.max⟩ rl rm ks (fun i h => absurd h (by simp)) (fun i hi => ?_)
      · obtain ⟨bm, om, e, -⟩ := hm.some h0
        refine ⟨bm, om, e, fun eg => ?_⟩
        have h6 := (im 0 (by simp)).size6
        have hc := rm 0 (by simp) bm om e 6 (by rw [Array.size_append, h6]; show 6 < 1 + 6; omega)
        subst eg
        rw [hz.cell (om + 0 * 7 + 6), Array.getElem?_eq_none (by show 6 ≤ _; omega)] at hc
        cases hc
      · obtain rfl : i = 0 := by simpa using hi
        exact path_apart hz r h1 h2 (im 0 hi)

set_option maxRecDepth 100000 in
set_option maxHeartbeats 8000000 in
theorem r11Set_any {w0 : World} {R : Nat → Prop} {t : T} {cs : Array Value} (h : Lies w0 R t cs) (hts : t.size ≤ 900000) (w : World) (hw : Below w0.heap.size w0 w) (s p q : ByteArray) (found : Bool) (hs : s.size ≤ 1000000) (hsp : Split s p q found)
    (k : Int) (b : Bool) (n : Int) (sx : ByteArray) (c : Int) (hk : (Lit.int .i64 k).wf = true) (hn : (Lit.int .i64 n).wf = true) (hx : sx.size ≤ 140737488355328) (hp : p.size ≤ 1000)
    (HWD : ∀ w1, Calls Tryz.prog 23 #[.string q] w1 (ParseTo w1 #[.int .i64 k, .bool b, .int .i64 n, .string sx, .slice none 0 0, .slice none 0 0] c)) :
    Calls Tryz.prog 11 #[.agg cs, .string s] w (RSetIn w (setR t found p.data.toList (.mk k b n sx [] []) c)) := by
  obtain ⟨c0, c1, c2, c3, c4, c4l, c4c, c5, c5l, c5c, rfl⟩ := h.six
  have H := Lib.hid h
  have PP : Hid (∀ w1, Calls Tryz.prog 32 #[.string p] w1 (Parsed w1 p.data.toList)) := fun w1 => r2Parse_any p hp w1
  have HWQ := Lib.hid HWD
  obtain ⟨dd, hu, hdd⟩ := Tryz.structV
  have DD := Lib.hid hdd
  have HU := Lib.hid hu
  have hb2 : Below w.heap.size w ((w.alloc (.cells #[.int .i64 c0, .bool c1, .int .i64 c2, .string c3, .slice c4 c4l c4c, .slice c5 c5l c5c] 25)).alloc (.cells zeroV 25)) := ((Below.refl _ _).alloc (Nat.le_refl _) _).alloc (by simp) _
  have b1 : Box6 ((w.alloc (.cells #[.int .i64 c0, .bool c1, .int .i64 c2, .string c3, .slice c4 c4l c4c, .slice c5 c5l c5c] 25)).alloc (.cells zeroV 25)) w.heap.size #[.int .i64 c0, .bool c1, .int .i64 c2, .string c3, .slice c4 c4l c4c, .slice c5 c5l c5c] := (Box6.new w _ 25).later ((Below.refl (w.heap.size + 1) _).alloc (by simp) _) (by omega)
  have b3 := Box6.new (w.alloc (.cells #[.int .i64 c0, .bool c1, .int .i64 c2, .string c3, .slice c4 c4l c4c, .slice c5 c5l c5c] 25)) zeroV 25
  have t3 := Thaw.new (w.alloc (.cells #[.int .i64 c0, .bool c1, .int .i64 c2, .string c3, .slice c4 c4l c4c, .slice c5 c5l c5c] 25)) zeroV 25
  rw [World.size_alloc] at b3 t3
  have zb2 : ZB ((w.alloc (.cells #[.int .i64 c0, .bool c1, .int .i64 c2, .string c3, .slice c4 c4l c4c, .slice c5 c5l c5c] 25)).alloc (.cells zeroV 25)) (w.heap.size + 1) := by
    have := ZB.new (w.alloc (.cells #[.int .i64 c0, .bool c1, .int .i64 c2, .string c3, .slice c4 c4l c4c, .slice c5 c5l c5c] 25))
    rw [World.size_alloc] at this
    exact this
  have HZB := Lib.hid zb2
  have es2 : ((w.alloc (.cells #[.int .i64 c0, .bool c1, .int .i64 c2, .string c3, .slice c4 c4l c4c, .slice c5 c5l c5c] 25)).alloc (.cells zeroV 25)).heap.size = w.heap.size + 2 := by simp
  have HB2 := Lib.hid hb2
  have B1 := Lib.hid b1
  have BZ := Lib.hid b3
  have TZ := Lib.hid t3
  have ES2 := Lib.hid es2
  have HX := Lib.hid hx
  have HK := Lib.hid hk
  have HN := Lib.hid hn
  have HTS0 := Lib.hid hts
  clear hdd hu h HWD hb2 b1 b3 t3 es2 zb2 hx hk hn hts
  obtain ⟨r, hr⟩ : ∃ r, r = setR t found p.data.toList (.mk k b n sx [] []) c := ⟨_, rfl⟩
  rw [← hr]
  cases found with
  | false =>
    have HR : Hid (r = (T.nil, 10)) := by show _ = _; rw [hr, setR, if_pos rfl]
    obtain ⟨-, -, hne⟩ := hsp.none
    have HNE := Lib.hid hne
    clear hr hsp hne
    go_enter Tryz.func11, Tryz.ntmps11
    go_upto_region 1 with fail
    generalize ((w.alloc (.cells #[.int .i64 c0, .bool c1, .int .i64 c2, .string c3, .slice c4 c4l c4c, .slice c5 c5l c5c] 25)).alloc (.cells zeroV 25)) = v at *
    have hvs := Nat.le_of_eq ES2.out.symm
    have HWV := Lib.hid (bstep hw HB2.out hw.size)
    go_wp2_with fail
    go_loop [6] (fun vi => ∃ j : Nat, j ≤ s.size ∧ vi = .int .i64 j) (fun vi => s.size - (intOf vi).toNat)
    case atStart => exact ⟨0, Nat.zero_le _, rfl⟩
    case round =>
      obtain ⟨j, hj, rfl⟩ := hrel
      by_cases hjl : j < s.size
      · have hneq : ((s[j].toNat : Int) == 61) = false := by
          rw [beq_eq_false_iff_ne]
          exact fun e => HNE.out j hjl (byteIs (by have : (61 : UInt8).toNat = 61 := rfl; omega))
        have hnb : ((s[j].toNat : Int) != 61) = true := by rw [bne, hneq]; rfl
        go_wp2_with fail
        go_round
        case rel => exact ⟨j + 1, by omega, by go_num⟩
        case measure => simp [intOf]; omega
      · obtain rfl : j = s.size := by omega
        have hjj : ((s.size : Int) == (s.size : Int)) = true := by simp
        obtain ⟨z0, z1, z2, z3, z4, z5⟩ := (BZ.out.later (Below.refl v.heap.size v) (by omega)).six
        obtain ⟨f0, f1, f2, f3, f4, f5⟩ := (TZ.out.later (Below.refl v.heap.size v) (by omega)).six
        go_wp2_with fail
        all_goals
          refine ret_cells_tmp v (w.heap.size + 1) zeroV.toList rfl Tryz.results11 rfl rfl DD.out HU.out Tryz.sizeV (box6_cells (BZ.out.later (Below.refl v.heap.size v) (by omega)) rfl) ?_
          have hbf := setRow_below (w.heap.size + 1) (by omega) zeroV.toList v 0 (bstep HB2.out (Below.refl v.heap.size v) HB2.out.size)
          generalize setRow v (w.heap.size + 1) 0 zeroV.toList = v2 at hbf ⊢
          rw [HR.out]
          exact ⟨_, rfl, nil_lies _ _, hbf⟩
  | true =>
  obtain ⟨hsz, hf1, hf2, -, hx1, hx2⟩ := hsp.facts
  have F1 := Lib.hid hf1
  have F2 := Lib.hid hf2
  have X1 := Lib.hid hx1
  have X2 := Lib.hid hx2
  have hps : p.size < s.size := by omega
  clear hsp hf1 hf2 hx1 hx2 hsz
  obtain ⟨pc, hpc⟩ : ∃ pc, pc = (parseD p.data.toList).2 := ⟨_, rfl⟩
  unfold Parsed at PP
  rw [setR, if_neg (by simp), ← hpc] at hr
  rw [← hpc] at PP
  by_cases hp0 : pc = 0
  case neg =>
    have HR : Hid (r = (T.nil, pc)) := by show _ = _; rw [hr, if_pos hp0]
    have g1 : (pc == 0) = false := by rw [beq_eq_false_iff_ne]; exact hp0
    have g2 : (pc != 0) = true := by rw [bne_iff_ne]; exact hp0
    clear hr hp0 hpc
    go_enter Tryz.func11, Tryz.ntmps11
    go_upto_region 1 with fail
    generalize ((w.alloc (.cells #[.int .i64 c0, .bool c1, .int .i64 c2, .string c3, .slice c4 c4l c4c, .slice c5 c5l c5c] 25)).alloc (.cells zeroV 25)) = v at *
    have hvs := Nat.le_of_eq ES2.out.symm
    have HWV := Lib.hid (bstep hw HB2.out hw.size)
    go_wp2_with fail
    go_loop [6] (fun vi => ∃ j : Nat, j ≤ p.size ∧ vi = .int .i64 j) (fun vi => p.size - (intOf vi).toNat)
    case atStart => exact ⟨0, Nat.zero_le _, rfl⟩
    case round =>
      obtain ⟨j, hj, rfl⟩ := hrel
      have hjl : j < s.size := by omega
      by_cases hjp : j < p.size
      · have hneq : ((s[j].toNat : Int) == 61) = false := by
          rw [beq_eq_false_iff_ne]
          exact fun e => F1.out j hjl hjp (byteIs (by have : (61 : UInt8).toNat = 61 := rfl; omega))
        have hnb : ((s[j].toNat : Int) != 61) = true := by rw [bne, hneq]; rfl
        go_wp2_with fail
        go_round
        case rel => exact ⟨j + 1, by omega, by go_num⟩
        case measure => simp [intOf]; omega
      · obtain rfl : j = p.size := by omega
        have heq : ((s[p.size].toNat : Int) == 61) = true := by rw [F2.out hjl]; rfl
        have hnb : ((s[p.size].toNat : Int) != 61) = false := by rw [bne, heq]; rfl
        have hjj : ((p.size : Int) == (s.size : Int)) = false := by rw [beq_eq_false_iff_ne]; omega
        have hx1 := X1.out
        have hx2 := X2.out
        go_upto_region 7 with (go_at_call 32; refine (PP.out _).mono ?_; rintro e w2 ⟨ks, ka, kc, rfl, hS, hdat, hb⟩; have HB4 := Lib.hid hb; clear hb hS hdat)
        obtain ⟨z0, z1, z2, z3, z4, z5⟩ := (BZ.out.later HB4.out (by omega)).six
        obtain ⟨f0, f1, f2, f3, f4, f5⟩ := (TZ.out.later HB4.out (by omega)).six
        go_wp2_with fail
        all_goals
          refine ret_cells_tmp w2 (w.heap.size + 1) zeroV.toList rfl Tryz.results11 rfl rfl DD.out HU.out Tryz.sizeV (box6_cells (BZ.out.later HB4.out (by omega)) rfl) ?_
          have hbf := setRow_below (w.heap.size + 1) (by omega) zeroV.toList w2 0 (bstep HB2.out HB4.out HB2.out.size)
          generalize setRow w2 (w.heap.size + 1) 0 zeroV.toList = v2 at hbf ⊢
          rw [HR.out]
          exact ⟨_, rfl, nil_lies _ _, hbf⟩
  subst hp0
  rw [if_neg (by simp)] at hr
  have HPC := Lib.hid hpc
  clear hpc
  by_cases hc0 : c = 0
  case neg =>
    have HR : Hid (r = (T.nil, c)) := by show _ = _; rw [hr, if_pos hc0]
    have g1 : (c == 0) = false := by rw [beq_eq_false_iff_ne]; exact hc0
    have g2 : (c != 0) = true := by rw [bne_iff_ne]; exact hc0
    clear hr hc0
    go_enter Tryz.func11, Tryz.ntmps11
    go_upto_region 1 with fail
    generalize ((w.alloc (.cells #[.int .i64 c0, .bool c1, .int .i64 c2, .string c3, .slice c4 c4l c4c, .slice c5 c5l c5c] 25)).alloc (.cells zeroV 25)) = v at *
    have hvs := Nat.le_of_eq ES2.out.symm
    have HWV := Lib.hid (bstep hw HB2.out hw.size)
    go_wp2_with fail
    go_loop [6] (fun vi => ∃ j : Nat, j ≤ p.size ∧ vi = .int .i64 j) (fun vi => p.size - (intOf vi).toNat)
    case atStart => exact ⟨0, Nat.zero_le _, rfl⟩
    case round =>
      obtain ⟨j, hj, rfl⟩ := hrel
      have hjl : j < s.size := by omega
      by_cases hjp : j < p.size
      · have hneq : ((s[j].toNat : Int) == 61) = false := by
          rw [beq_eq_false_iff_ne]
          exact fun e => F1.out j hjl hjp (byteIs (by have : (61 : UInt8).toNat = 61 := rfl; omega))
        have hnb : ((s[j].toNat : Int) != 61) = true := by rw [bne, hneq]; rfl
        go_wp2_with fail
        go_round
        case rel => exact ⟨j + 1, by omega, by go_num⟩
        case measure => simp [intOf]; omega
      · obtain rfl : j = p.size := by omega
        have heq : ((s[p.size].toNat : Int) == 61) = true := by rw [F2.out hjl]; rfl
        have hnb : ((s[p.size].toNat : Int) != 61) = false := by rw [bne, heq]; rfl
        have hjj : ((p.size : Int) == (s.size : Int)) = false := by rw [beq_eq_false_iff_ne]; omega
        have hx1 := X1.out
        have hx2 := X2.out
        go_upto_region 10 with (first
          | (go_at_call 32; refine (PP.out _).mono ?_; rintro e w2 ⟨ks, ka, kc, rfl, hS, hdat, hb⟩; have HB4 := Lib.hid hb; clear hb hS hdat)
          | (go_at_call 23; refine (HWQ.out _).mono ?_; rintro e w3 ⟨rfl, hb⟩; have HB5 := Lib.hid hb; clear hb))
        have hb6 : Below v.heap.size v (w3.alloc (.cells #[.int .i64 k, .bool b, .int .i64 n, .string sx, .slice none 0 0, .slice none 0 0] 25)) := (bstep HB4.out HB5.out HB4.out.size).alloc (bstep HB4.out HB5.out HB4.out.size).size _
        have HB6 := Lib.hid hb6
        have BX := Lib.hid (Box6.new w3 #[.int .i64 k, .bool b, .int .i64 n, .string sx, .slice none 0 0, .slice none 0 0] 25)
        have hz : w3.heap.size < (w3.alloc (.cells #[.int .i64 k, .bool b, .int .i64 n, .string sx, .slice none 0 0, .slice none 0 0] 25)).heap.size := by simp
        have HZ := Lib.hid hz
        clear hb6 hz
        generalize w3.alloc (.cells #[.int .i64 k, .bool b, .int .i64 n, .string sx, .slice none 0 0, .slice none 0 0] 25) = w4 at *
        obtain ⟨z0, z1, z2, z3, z4, z5⟩ := (BZ.out.later HB6.out (by omega)).six
        obtain ⟨f0, f1, f2, f3, f4, f5⟩ := (TZ.out.later HB6.out (by omega)).six
        go_wp2_with fail
        all_goals
          refine ret_cells_tmp w4 (w.heap.size + 1) zeroV.toList rfl Tryz.results11 rfl rfl DD.out HU.out Tryz.sizeV (box6_cells (BZ.out.later HB6.out (by omega)) rfl) ?_
          have hbf := setRow_below (w.heap.size + 1) (by omega) zeroV.toList w4 0 (bstep HB2.out HB6.out HB2.out.size)
          generalize setRow w4 (w.heap.size + 1) 0 zeroV.toList = v2 at hbf ⊢
          rw [HR.out]
          exact ⟨_, rfl, nil_lies _ _, hbf⟩
  subst hc0
  rw [if_neg (by simp)] at hr
  · obtain ⟨ks', hks⟩ : ∃ ks', ks' = stepsD p.data.toList := ⟨_, rfl⟩
    have hkl : ks'.length ≤ 15 := by rw [hks]; exact steps_few _
    rw [← hks] at hr
    have HKS := Lib.hid hks
    have hzz := putL_size ks' T.none5 (.mk k b n sx [] [])
    have hz5 : T.none5.size = 1 := by rw [T.none5, T.size_mk]; rfl
    have hz1 : (T.mk k b n sx [] []).size = 1 := by rw [T.size_mk]; rfl
    have HZ5 := Lib.hid hz5
    rw [hz5, hz1] at hzz
    obtain ⟨U, hU⟩ : ∃ U, U = putL ks' T.none5 (.mk k b n sx [] []) := ⟨_, rfl⟩
    rw [← hU] at hr hzz
    have HUU : Hid (putQ ks' T.none5 (.mk k b n sx [] []) = U) := by show _ = _; rw [hU]; exact putQ_put _ _ _ none5_parts
    have huz : U.size ≤ 1000000 := by omega
    have HUP : Hid (U = pathU ks' (.mk k b n sx [] [])) := by show _ = _; rw [hU]; exact put_five _ _
    have HUS := Lib.hid huz
    have HTS : Hid (t.size ≤ 1000000) := by have := HTS0.out; show _ ≤ _; omega
    obtain ⟨O, hO⟩ : ∃ O, O = T.over t U := ⟨_, rfl⟩
    have hoz : O.size ≤ 4611686018427387904 := by rw [hO]; have := over_sz U t; have := HTS.out; omega
    rw [← hO] at hr
    have HOO := Lib.hid hO
    have HR := Lib.hid hr
    clear hr hks hzz hz5 hz1 hU huz hkl hO
    go_enter Tryz.func11, Tryz.ntmps11
    go_upto_region 1 with fail
    generalize ((w.alloc (.cells #[.int .i64 c0, .bool c1, .int .i64 c2, .string c3, .slice c4 c4l c4c, .slice c5 c5l c5c] 25)).alloc (.cells zeroV 25)) = v at *
    have hvs := Nat.le_of_eq ES2.out.symm
    have HWV := Lib.hid (bstep hw HB2.out hw.size)
    go_wp2_with fail
    go_loop [6] (fun vi => ∃ j : Nat, j ≤ p.size ∧ vi = .int .i64 j) (fun vi => p.size - (intOf vi).toNat)
    case atStart => exact ⟨0, Nat.zero_le _, rfl⟩
    case round =>
      obtain ⟨j, hj, rfl⟩ := hrel
      have hjl : j < s.size := by omega
      by_cases hjp : j < p.size
      · have hneq : ((s[j].toNat : Int) == 61) = false := by
          rw [beq_eq_false_iff_ne]
          exact fun e => F1.out j hjl hjp (byteIs (by have : (61 : UInt8).toNat = 61 := rfl; omega))
        have hnb : ((s[j].toNat : Int) != 61) = true := by rw [bne, hneq]; rfl
        go_wp2_with fail
        go_round
        case rel => exact ⟨j + 1, by omega, by go_num⟩
        case measure => simp [intOf]; omega
      · obtain rfl : j = p.size := by omega
        have heq : ((s[p.size].toNat : Int) == 61) = true := by rw [F2.out hjl]; rfl
        have hnb : ((s[p.size].toNat : Int) != 61) = false := by rw [bne, heq]; rfl
        have hjj : ((p.size : Int) == (s.size : Int)) = false := by rw [beq_eq_false_iff_ne]; omega
        have hx1 := X1.out
        have hx2 := X2.out
        go_upto_region 10 with (first
          | (go_at_call 32; refine (PP.out _).mono ?_; rintro e w2 ⟨ks, ka, kc, rfl, hS, hdat, hb⟩; have HB4 := Lib.hid hb; have HS := Lib.hid hS; have HD := Lib.hid hdat; clear hb hS hdat)
          | (go_at_call 23; refine (HWQ.out _).mono ?_; rintro e w3 ⟨rfl, hb⟩; have HB5 := Lib.hid hb; clear hb))
        obtain rfl : ks = ks' := by
          rw [HKS.out]
          exact dat_inj HD.out
        have hb6 : Below v.heap.size v (w3.alloc (.cells #[.int .i64 k, .bool b, .int .i64 n, .string sx, .slice none 0 0, .slice none 0 0] 25)) := (bstep HB4.out HB5.out HB4.out.size).alloc (bstep HB4.out HB5.out HB4.out.size).size _
        have HB6 := Lib.hid hb6
        have BX := Lib.hid (Box6.new w3 #[.int .i64 k, .bool b, .int .i64 n, .string sx, .slice none 0 0, .slice none 0 0] 25)
        have hz : w3.heap.size < (w3.alloc (.cells #[.int .i64 k, .bool b, .int .i64 n, .string sx, .slice none 0 0, .slice none 0 0] 25)).heap.size := by simp
        have HZ := Lib.hid hz
        have HS4 := Lib.hid ((HS.out.later HB5.out).later ((Below.refl _ _).alloc (Nat.le_refl _) (.cells #[.int .i64 k, .bool b, .int .i64 n, .string sx, .slice none 0 0, .slice none 0 0] 25)))
        clear hb6 hz
        generalize w3.alloc (.cells #[.int .i64 k, .bool b, .int .i64 n, .string sx, .slice none 0 0, .slice none 0 0] 25) = w4 at *
        obtain ⟨p0, p1, p2, p3, p4, p5⟩ := (B1.out.later HB6.out (by omega)).six
        obtain ⟨q0, q1, q2, q3, q4, q5⟩ := BX.out.six
        have BZ4 := Lib.hid (BZ.out.later HB6.out (by omega))
        have TZ4 := Lib.hid (TZ.out.later HB6.out (by omega))
        have hv4 := HB6.out.size
        have H4 : Hid (Lies w4 (fun b => b < w.heap.size) t #[.int .i64 c0, .bool c1, .int .i64 c2, .string c3, .slice c4 c4l c4c, .slice c5 c5l c5c]) := (H.out.bound.later (bstep HWV.out HB6.out HWV.out.size)).weaken fun b hb => by have := hw.size; omega
        have NZ : Hid (∀ wb, Below w4.heap.size w4 wb → ∀ {R : Nat → Prop} {es : Array Value}, Lies wb R U es → Lies wb (fun b => b ≠ w.heap.size + 1) U es) := fun wb hb R es hl => by
          have hz := (HZB.out.later HB6.out).later hb
          have e := HUP.out
          rw [e] at hl ⊢
          exact path_apart hz ks rfl rfl hl
        have PUT : Hid (∀ w1, Below w4.heap.size w4 w1 → Calls Tryz.prog 15 #[.agg #[.int .i64 5, .bool false, .int .i64 0, .string ⟨#[]⟩, .slice none 0 0, .slice none 0 0], .agg #[.int .i64 k, .bool b, .int .i64 n, .string sx, .slice none 0 0, .slice none 0 0], .slice ka ks.length kc] w1 (Laid w4 w1 U)) := fun w1 hb => by
          rw [← HUU.out]
          exact r2Put_any ks (none5_lies w4 (fun _ => True)) (leafV w4 k b n sx HK.out HN.out HX.out) HS4.out (by rw [HZ5.out]; omega) w1 hb
        go_upto_region 12 with fail
        refine wp_region_specsO w4 7 6 (fun i => match i with | 0 => 53 | 1 => 54 | 2 => 55 | 3 => 56 | 4 => 57 | 5 => 58 | 6 => 11 | _ => 0) (fun i x wx => match i with | 0 => x = .agg #[.int .i64 c0, .bool c1, .int .i64 c2, .string c3, .slice c4 c4l c4c, .slice c5 c5l c5c] | 1 => x = .agg #[.int .i64 5, .bool false, .int .i64 0, .string ⟨#[]⟩, .slice none 0 0, .slice none 0 0] | 2 => x = .agg #[.int .i64 k, .bool b, .int .i64 n, .string sx, .slice none 0 0, .slice none 0 0] | 3 => x = .slice ka ks.length kc | 4 => ∃ (f0 : Int) (f1 : Bool) (f2 : Int) (f3 : ByteArray) (f4 : Option Addr) (f4l f4c : Nat) (f5 : Option Addr) (f5l f5c : Nat), x = .agg #[.int .i64 f0, .bool f1, .int .i64 f2, .string f3, .slice f4 f4l f4c, .slice f5 f5l f5c] ∧ Lies wx (fun b => True) U #[.int .i64 f0, .bool f1, .int .i64 f2, .string f3, .slice f4 f4l f4c, .slice f5 f5l f5c] | 5 => ∃ (f0 : Int) (f1 : Bool) (f2 : Int) (f3 : ByteArray) (f4 : Option Addr) (f4l f4c : Nat) (f5 : Option Addr) (f5l f5c : Nat), x = .agg #[.int .i64 f0, .bool f1, .int .i64 f2, .string f3, .slice f4 f4l f4c, .slice f5 f5l f5c] ∧ Lies wx (fun b => b ≠ w.heap.size + 1) O #[.int .i64 f0, .bool f1, .int .i64 f2, .string f3, .slice f4 f4l f4c, .slice f5 f5l f5c] | 6 => ∃ g : Nat, x = .pointer (some ⟨g, 0, none⟩) ∧ ZB wx g ∧ w4.heap.size ≤ g | _ => True) (fun i x yv wx => match i with | 4 => ∀ g, yv = .pointer (some ⟨g, 0, none⟩) → ∃ (f0 : Int) (f1 : Bool) (f2 : Int) (f3 : ByteArray) (f4 : Option Addr) (f4l f4c : Nat) (f5 : Option Addr) (f5l f5c : Nat), x = .agg #[.int .i64 f0, .bool f1, .int .i64 f2, .string f3, .slice f4 f4l f4c, .slice f5 f5l f5c] ∧ Lies wx (fun b => b ≠ g) U #[.int .i64 f0, .bool f1, .int .i64 f2, .string f3, .slice f4 f4l f4c, .slice f5 f5l f5c] | 5 => ∀ g, yv = .pointer (some ⟨g, 0, none⟩) → ∃ (f0 : Int) (f1 : Bool) (f2 : Int) (f3 : ByteArray) (f4 : Option Addr) (f4l f4c : Nat) (f5 : Option Addr) (f5l f5c : Nat), x = .agg #[.int .i64 f0, .bool f1, .int .i64 f2, .string f3, .slice f4 f4l f4c, .slice f5 f5l f5c] ∧ Lies wx (fun b => b ≠ g ∧ b ≠ w.heap.size + 1) O #[.int .i64 f0, .bool f1, .int .i64 f2, .string f3, .slice f4 f4l f4c, .slice f5 f5l f5c] | _ => True) (fun x wx => ∃ (g : Nat) (f0 : Int) (f1 : Bool) (f2 : Int) (f3 : ByteArray) (f4 : Option Addr) (f4l f4c : Nat) (f5 : Option Addr) (f5l f5c : Nat), x = .pointer (some ⟨g, 0, none⟩) ∧ Hid (Box6 wx g #[.int .i64 f0, .bool f1, .int .i64 f2, .string f3, .slice f4 f4l f4c, .slice f5 f5l f5c]) ∧ Hid (Lies wx (fun b => b ≠ w.heap.size + 1) O #[.int .i64 f0, .bool f1, .int .i64 f2, .string f3, .slice f4 f4l f4c, .slice f5 f5l f5c]) ∧ w4.heap.size ≤ g ∧ g < wx.heap.size ∧ Below w4.heap.size w4 wx) (by kernel_rfl) (by kernel_rfl) ?s1 (by decide) (Below.refl _ _) ?s2 ?n1 (fun _ _ _ => trivial) ?s5 ?s7 ?s9
        case s1 => intro i hi; rcases (by omega : i = 0 ∨ i = 1 ∨ i = 2 ∨ i = 3 ∨ i = 4 ∨ i = 5 ∨ i = 6) with rfl | rfl | rfl | rfl | rfl | rfl | rfl <;> exact Nat.lt_of_lt_of_le (by decide : _ < 66) (Nat.le_refl 66)
        case s2 =>
          intro i x w1 w2 hb hU
          match i, hU with
          | 4, ⟨f0, f1, f2, f3, f4, f4l, f4c, f5, f5l, f5c, e, hl⟩ => exact ⟨f0, f1, f2, f3, f4, f4l, f4c, f5, f5l, f5c, e, hl.later hb⟩
          | 5, ⟨f0, f1, f2, f3, f4, f4l, f4c, f5, f5l, f5c, e, hl⟩ => exact ⟨f0, f1, f2, f3, f4, f4l, f4c, f5, f5l, f5c, e, hl.later hb⟩
          | 6, ⟨g, e, hz, hg⟩ => exact ⟨g, e, hz.later hb, hg⟩
          | 0, h | 1, h | 2, h | 3, h => exact h
          | (k + 7), _ => trivial
        case n1 =>
          intro i x y w1 w2 hi hb hN
          match i, hN with
          | 4, h => exact fun g e => by obtain ⟨f0, f1, f2, f3, f4, f4l, f4c, f5, f5l, f5c, e2, hl⟩ := h g e; exact ⟨f0, f1, f2, f3, f4, f4l, f4c, f5, f5l, f5c, e2, hl.later hb⟩
          | 5, h => exact fun g e => by obtain ⟨f0, f1, f2, f3, f4, f4l, f4c, f5, f5l, f5c, e2, hl⟩ := h g e; exact ⟨f0, f1, f2, f3, f4, f4l, f4c, f5, f5l, f5c, e2, hl.later hb⟩
          | 0, _ | 1, _ | 2, _ | 3, _ | 6, _ => trivial
          | (k + 7), _ => trivial
        case s5 =>
          intro i o ac wb K' ho hi hA hB hdep hK
          have sv2 : ac.tmps[2]?.getD undef = .pointer (some ⟨w.heap.size, 0, none⟩) := hA.sl (t := 2) (by decide)
          have sv9 : ac.tmps[9]?.getD undef = .pointer (some ⟨w3.heap.size, 0, none⟩) := hA.sl (t := 9) (by decide)
          have sv7 : ac.tmps[7]?.getD undef = .slice ka ks.length kc := hA.sl (t := 7) (by decide)
          have p0 := cells_frame hB p0
          have p1 := cells_frame hB p1
          have p2 := cells_frame hB p2
          have p3 := cells_frame hB p3
          have p4 := cells_frame hB p4
          have p5 := cells_frame hB p5
          have q0 := cells_frame hB q0
          have q1 := cells_frame hB q1
          have q2 := cells_frame hB q2
          have q3 := cells_frame hB q3
          have q4 := cells_frame hB q4
          have q5 := cells_frame hB q5
          rcases (by omega : i = 0 ∨ i = 1 ∨ i = 2 ∨ i = 3 ∨ i = 4 ∨ i = 5 ∨ i = 6) with rfl | rfl | rfl | rfl | rfl | rfl | rfl
          · simp at ho
            subst ho
            clear hdep hA
            go_simp
            exact hK _ wb (Below.refl _ _) rfl (fun _ _ _ _ => trivial) (fun e => absurd e (by decide))
          · simp at ho
            subst ho
            clear hdep hA
            go_simp
            exact hK _ wb (Below.refl _ _) rfl (fun _ _ _ _ => trivial) (fun e => absurd e (by decide))
          · simp at ho
            subst ho
            clear hdep hA
            go_simp
            exact hK _ wb (Below.refl _ _) rfl (fun _ _ _ _ => trivial) (fun e => absurd e (by decide))
          · simp at ho
            subst ho
            clear hdep hA
            go_simp
            exact hK _ wb (Below.refl _ _) rfl (fun _ _ _ _ => trivial) (fun e => absurd e (by decide))
          · simp at ho
            subst ho
            have z1 : ac.tmps[54]?.getD undef = .agg #[.int .i64 5, .bool false, .int .i64 0, .string ⟨#[]⟩, .slice none 0 0, .slice none 0 0] := hdep { on := 1, ground := .data } (by simp) rfl
            have z2 : ac.tmps[55]?.getD undef = .agg #[.int .i64 k, .bool b, .int .i64 n, .string sx, .slice none 0 0, .slice none 0 0] := hdep { on := 2, ground := .data } (by simp) rfl
            have z3 : ac.tmps[56]?.getD undef = .slice ka ks.length kc := hdep { on := 3, ground := .data } (by simp) rfl
            clear hdep hA
            go_simp
            refine (PUT.out wb hB).mono ?_
            rintro e w5 ⟨es, rfl, hl, hb5⟩
            obtain ⟨f0, f1, f2, f3, f4, f4l, f4c, f5, f5l, f5c, rfl⟩ := hl.six
            refine hK _ w5 hb5 ⟨f0, f1, f2, f3, f4, f4l, f4c, f5, f5l, f5c, rfl, hl.weaken fun b hb => trivial⟩ (fun _ y hy _ g e => ⟨f0, f1, f2, f3, f4, f4l, f4c, f5, f5l, f5c, rfl, hl.weaken fun b hb => ?_⟩) (fun e => absurd e (by decide))
            obtain ⟨g2, hy2, hz2, hg2⟩ := hy
            rw [e] at hy2
            injection hy2 with hy2
            injection hy2 with hy2
            injection hy2 with hy2
            have := hz2.lt
            omega
          · simp at ho
            subst ho
            have z0 : ac.tmps[53]?.getD undef = .agg #[.int .i64 c0, .bool c1, .int .i64 c2, .string c3, .slice c4 c4l c4c, .slice c5 c5l c5c] := hdep { on := 0, ground := .data } (by simp) rfl
            obtain ⟨f0, f1, f2, f3, f4, f4l, f4c, f5, f5l, f5c, zp, hl⟩ := hdep { on := 4, ground := .data } (by simp) rfl
            have zp : ac.tmps[57]?.getD undef = .agg #[.int .i64 f0, .bool f1, .int .i64 f2, .string f3, .slice f4 f4l f4c, .slice f5 f5l f5c] := zp
            clear hdep hA
            go_simp
            have hlz := hl.least
            have RO := rOver_any hlz (H4.out.later hB) wb (Below.refl _ _) HTS.out HUS.out
            rw [← HOO.out] at RO
            refine RO.mono ?_
            rintro e w5 ⟨es, rfl, hl5, hb5⟩
            obtain ⟨k0, k1, k2, k3, k4, k4l, k4c, k5, k5l, k5c, rfl⟩ := hl5.six
            have hsB := hB.size
            refine hK _ w5 hb5 ⟨k0, k1, k2, k3, k4, k4l, k4c, k5, k5l, k5c, rfl, hl5.weaken fun b hb => ?_⟩ (fun _ y hy hd g e => ?_) (fun e => absurd e (by decide))
            · rcases hb with ⟨hb | hb, _⟩ | hb
              · omega
              · exact hb _ (NZ.out wb hB hl)
              · omega
            obtain ⟨h0, h1, h2, h3, h4, h4l, h4c, h5, h5l, h5c, e2, hl2⟩ := hd { on := 4, ground := .data } (by simp) rfl g e
            have e3 := (show ac.tmps[57]?.getD undef = _ from e2).symm.trans zp
            cases e3
            refine ⟨k0, k1, k2, k3, k4, k4l, k4c, k5, k5l, k5c, rfl, hl5.weaken fun b hb => ?_⟩
            obtain ⟨g2, hy2, hz2, hg2⟩ := hy
            rw [e] at hy2
            injection hy2 with hy2
            injection hy2 with hy2
            injection hy2 with hy2
            have := hz2.lt
            rcases hb with ⟨hb | hb, _⟩ | hb
            · exact ⟨by omega, by omega⟩
            · exact ⟨hb _ hl2, hb _ (NZ.out wb hB hl)⟩
            · exact ⟨by omega, by omega⟩
          · simp at ho
            subst ho
            clear hdep hA
            go_simp
            refine hK _ _ ((Below.refl _ _).alloc (Nat.le_refl _) _) ⟨wb.heap.size, rfl, ZB.new wb, hB.size⟩ (fun e => absurd rfl e) (fun _ j z hj hz => ?_)
            match j, hz with
            | 4, ⟨f0, f1, f2, f3, f4, f4l, f4c, f5, f5l, f5c, e, hl⟩ => exact fun g eg => by injection eg with eg; injection eg with eg; injection eg with eg; exact ⟨f0, f1, f2, f3, f4, f4l, f4c, f5, f5l, f5c, e, (hl.bound.later ((Below.refl _ _).alloc (Nat.le_refl _) _)).weaken fun b hb => by omega⟩
            | 5, ⟨f0, f1, f2, f3, f4, f4l, f4c, f5, f5l, f5c, e, hl⟩ => exact fun g eg => by injection eg with eg; injection eg with eg; injection eg with eg; exact ⟨f0, f1, f2, f3, f4, f4l, f4c, f5, f5l, f5c, e, (hl.bound.later ((Below.refl _ _).alloc (Nat.le_refl _) _)).weaken fun b hb => ⟨by omega, hb.1⟩⟩
            | 0, _ | 1, _ | 2, _ | 3, _ | 6, _ => trivial
            | (k + 7), _ => trivial
        case s7 =>
          intro o ac wb K' ho hA hB hU hNN hK
          simp at ho
          subst ho
          obtain ⟨g, zg, hzb, hg⟩ := hU 6 (by omega)
          obtain ⟨f0, f1, f2, f3, f4, f4l, f4c, f5, f5l, f5c, zo, hl⟩ := hNN 5 (by omega) g zg
          have zo : ac.tmps[58]?.getD undef = .agg #[.int .i64 f0, .bool f1, .int .i64 f2, .string f3, .slice f4 f4l f4c, .slice f5 f5l f5c] := zo
          have zg' : ac.tmps[11]?.getD undef = .pointer (some ⟨g, 0, none⟩) := zg
          have zc : ∀ j, wb.cell? ⟨g, j, none⟩ = (#[.int .i64 0, .bool false, .int .i64 0, .string ⟨#[]⟩, .slice none 0 0, .slice none 0 0] : Array Value)[j]? := hzb.cell
          have zf := hzb.frozen
          have hbx : Box6 (setRow wb g 0 [.int .i64 f0, .bool f1, .int .i64 f2, .string f3, .slice f4 f4l f4c, .slice f5 f5l f5c]) g #[.int .i64 f0, .bool f1, .int .i64 f2, .string f3, .slice f4 f4l f4c, .slice f5 f5l f5c] := row_box6 (zb_rows hzb [.int .i64 f0, .bool f1, .int .i64 f2, .string f3, .slice f4 f4l f4c, .slice f5 f5l f5c] rfl)
          have hlt := hzb.lt
          have hlz := Lib.hid hl
          clear hU hNN hA hl
          go_simp
          exact hK _ ⟨g, f0, f1, f2, f3, f4, f4l, f4c, f5, f5l, f5c, zg, hbx, lies_setRowX [.int .i64 f0, .bool f1, .int .i64 f2, .string f3, .slice f4 f4l f4c, .slice f5 f5l f5c] hlz.out, hg, by show _ < (setRow wb g 0 [.int .i64 f0, .bool f1, .int .i64 f2, .string f3, .slice f4 f4l f4c, .slice f5 f5l f5c]).heap.size; rw [setRow_size]; exact hlt, setRow_below g hg [.int .i64 f0, .bool f1, .int .i64 f2, .string f3, .slice f4 f4l f4c, .slice f5 f5l f5c] wb 0 hB⟩
        case s9 =>
          intro ac wn hA hF
          obtain ⟨g, f0, f1, f2, f3, f4, f4l, f4c, f5, f5l, f5c, zg, hbx, hf, hg, hgl, hbn⟩ := hF
          have hs : slots 7 (fun i => match i with | 0 => 53 | 1 => 54 | 2 => 55 | 3 => 56 | 4 => 57 | 5 => 58 | 6 => 11 | _ => 0) = [53, 54, 55, 56, 57, 58, 11] := by rfl
          rw [hs] at hA
          have hac := hA.act (fun t ht => by
            have h8 : t = 53 ∨ t = 54 ∨ t = 55 ∨ t = 56 ∨ t = 57 ∨ t = 58 ∨ t = 11 := by simpa using ht
            rcases h8 with rfl | rfl | rfl | rfl | rfl | rfl | rfl <;> exact Nat.lt_of_lt_of_le (by decide : _ < 66) (Nat.le_refl 66))
          rw [List.foldl_cons, List.foldl_cons, List.foldl_cons, List.foldl_cons, List.foldl_cons, List.foldl_cons, List.foldl_cons, List.foldl_nil] at hac
          have zg : sl ac 11 = .pointer (some ⟨g, 0, none⟩) := zg
          rw [zg] at hac
          generalize sl ac 53 = x53 at hac
          generalize sl ac 54 = x54 at hac
          generalize sl ac 55 = x55 at hac
          generalize sl ac 56 = x56 at hac
          generalize sl ac 57 = x57 at hac
          generalize sl ac 58 = x58 at hac
          clear hA hs zg
          subst hac
          simp only [Act.put, List.setIfInBounds_toArray, List.set_cons_succ, List.set_cons_zero]
          have HV7 := Lib.hid hbn
          have BG := Lib.hid hbx.out
          have HL7 := hf
          have HG := Lib.hid hgl
          clear p0 p1 p2 p3 p4 p5 q0 q1 q2 q3 q4 q5
          obtain ⟨p0, p1, p2, p3, p4, p5⟩ := hbx.out.six
          have CK := Lib.hid (rCheck_any HL7.out wn (Below.refl _ _) hoz)
          obtain ⟨ck, hck⟩ : ∃ ck, ck = O.check := ⟨_, rfl⟩
          have HRO : Hid ((ck = 0 → r = (O, 0)) ∧ (ck ≠ 0 → r = (T.nil, ck))) := by
            refine ⟨fun e => ?_, fun e => ?_⟩
            · rw [HR.out, overC, if_pos (by rw [← hck]; exact e)]
            · rw [HR.out, overC, if_neg (by rw [← hck]; exact e), hck]
          rw [← hck] at CK
          clear hck hbx hf hbn hgl hg
          go_upto_region 14 with (go_at_call 18; refine CK.out.mono ?_; rintro e w8 ⟨rfl, hb8⟩; have HB8 := Lib.hid hb8; clear hb8)
          have HB9 := Lib.hid (bstep HV7.out HB8.out HV7.out.size)
          clear p0 p1 p2 p3 p4 p5
          obtain ⟨p0, p1, p2, p3, p4, p5⟩ := (BG.out.later HB8.out HG.out).six
          obtain ⟨z0, z1, z2, z3, z4, z5⟩ := (BZ4.out.later HB9.out (by omega)).six
          obtain ⟨f0', f1', f2', f3', f4', f5'⟩ := (TZ4.out.later HB9.out (by omega)).six
          by_cases hk0 : ck = 0
          case pos =>
            have hr0 := HRO.out.1 hk0
            subst hk0
            have HR0 := Lib.hid hr0
            clear hr0 HR HRO
            go_wp2_with fail
            all_goals
              refine ret_cells_tmp w8 (w.heap.size + 1) [.int .i64 f0, .bool f1, .int .i64 f2, .string f3, .slice f4 f4l f4c, .slice f5 f5l f5c] rfl Tryz.results11 rfl rfl DD.out HU.out Tryz.sizeV (box6_cells (BZ4.out.later HB9.out (by omega)) rfl) ?_
              have hbf := setRow_below (w.heap.size + 1) (by omega) [.int .i64 f0, .bool f1, .int .i64 f2, .string f3, .slice f4 f4l f4c, .slice f5 f5l f5c] w8 0 (bstep HB2.out (bstep HB6.out HB9.out HB6.out.size) HB2.out.size)
              have hl8 := HL7.out.later HB8.out
              have hl9 := (hl8.keep (w' := setRow w8 (w.heap.size + 1) 0 [.int .i64 f0, .bool f1, .int .i64 f2, .string f3, .slice f4 f4l f4c, .slice f5 f5l f5c]) (fun b hb => setRow_heap _ _ _ _ _ hb)).weaken (fun b _ => (trivial : True))
              generalize setRow w8 (w.heap.size + 1) 0 [.int .i64 f0, .bool f1, .int .i64 f2, .string f3, .slice f4 f4l f4c, .slice f5 f5l f5c] = v2 at hbf hl9 ⊢
              rw [HR0.out]
              exact ⟨_, rfl, hl9, hbf⟩
          case neg =>
            have hr0 := HRO.out.2 hk0
            have g3 : (ck == 0) = false := by rw [beq_eq_false_iff_ne]; exact hk0
            have g4 : (ck != 0) = true := by rw [bne_iff_ne]; exact hk0
            have HR0 := Lib.hid hr0
            clear hr0 HR HRO hk0
            go_wp2_with fail
            all_goals
              refine ret_cells_tmp w8 (w.heap.size + 1) zeroV.toList rfl Tryz.results11 rfl rfl DD.out HU.out Tryz.sizeV (box6_cells (BZ4.out.later HB9.out (by omega)) rfl) ?_
              have hbf := setRow_below (w.heap.size + 1) (by omega) zeroV.toList w8 0 (bstep HB2.out (bstep HB6.out HB9.out HB6.out.size) HB2.out.size)
              generalize setRow w8 (w.heap.size + 1) 0 zeroV.toList = v2 at hbf ⊢
              rw [HR0.out]
              exact ⟨_, rfl, nil_lies _ _, hbf⟩

end Go.Proofs.YtlniokpekcoodaaGreatDoor
