/-
  ScalarWords: the law's contract.
-/
import Derived.Test.YtfadijofnaepnaaDoorLawBack
import Derived.Test.YtfadijofnaepnaaDoorCParseN
import Derived.Test.YtfadijofnaepnaaDoorPrints
import Derived.Lib.QuietBelow
set_option linter.unusedVariables false
set_option linter.unusedSimpArgs false
namespace Go.Proofs.YtfadijofnaepnaaDoor
open Go.RowKit Go.Sort

theorem good_any {k : Int} {b : Bool} {n : Int} {s : ByteArray} {l : List T} {m : List (ByteArray × T)} (h : (T.mk k b n s l m).good = true) : 0 ≤ k ∧ k ≤ 5 ∧ s.size ≤ 65536 := by
  have hp := good_parts h
  rw [T.parts_mk] at hp
  by_cases h1 : kindBad k b n s.toList.isEmpty l.length m.length = true
  · rw [if_pos h1] at hp; cases hp
  · rw [if_neg h1] at hp
    by_cases h2 : textB s = false
    · rw [if_pos h2] at hp; cases hp
    · have h3 : textB s = true := by simpa using h2
      unfold textB at h3
      simp only [Bool.and_eq_true, decide_eq_true_eq] at h3
      have h4 : kindBad k b n s.toList.isEmpty l.length m.length = false := by simpa using h1
      unfold kindBad at h4
      simp only [Bool.or_eq_false_iff, Bool.and_eq_false_iff, decide_eq_false_iff_not, Bool.not_eq_false', decide_eq_true_eq] at h4
      obtain ⟨⟨⟨⟨⟨⟨a1, a2⟩, a3⟩, a4⟩, a5⟩, a6⟩, a7⟩ := h4
      exact ⟨by omega, by omega, h3.1⟩

theorem calls_below {P : Program} {f : FuncId} {args : Array Value} {w : World} {v : Value} (h : Calls P f args w fun e w' => e = .returned v ∧ w' = w) : Calls P f args w fun e w' => e = .returned v ∧ Below w.heap.size w w' :=
  h.mono fun e w' ⟨he, hw⟩ => ⟨he, by rw [hw]; exact Below.refl _ _⟩

set_option maxRecDepth 100000 in
set_option maxHeartbeats 8000000 in
theorem scalarWords_any {w : World} {R : Nat → Prop} {t : T} {cs : Array Value} (z : ByteArray) (hz47 : z.size ≤ 140737488355328) (h : Lies w R t cs) (hpow : Pow10 w) (ev : Value) (hc1 : w.cell? ⟨1, 0, none⟩ = some ev) (hev : ev = .nilIface ∨ ∃ te pe, ev = .iface te pe) (hw1 : 1 < w.heap.size) :
    Calls Tryd.prog 3 #[.string z, .agg cs] w fun e w' => e = .returned (.bool true) ∧ Below w.heap.size w w' := by
  have HP0 := Lib.hid hpow
  have HE0 := Lib.hid hc1
  have HE1 := Lib.hid hev
  have HE2 := Lib.hid hw1
  clear hpow hc1 hev hw1
  have H := Lib.hid h
  cases h with
  | mk k b n s l m la lc ma mc cl cm hk hn hs hl hm rl rm ks il im =>
    have HWN := Lib.hid hn
    have HWK := Lib.hid hk
    clear hk hn hl hm rl rm ks il im
    have hx : ∀ j v, (#[.int .i64 k, .bool b, .int .i64 n, .string s, .slice la l.length lc, .slice ma m.length mc] : Array Value)[j]? = some v → (w.alloc (.cells #[.int .i64 k, .bool b, .int .i64 n, .string s, .slice la l.length lc, .slice ma m.length mc] 25)).cell? ⟨w.heap.size, j, none⟩ = some v := fun j v h => by rw [World.cell?_alloc_new]; exact h
    have hb1 : Below w.heap.size w (w.alloc (.cells #[.int .i64 k, .bool b, .int .i64 n, .string s, .slice la l.length lc, .slice ma m.length mc] 25)) := (Below.refl _ _).alloc (Nat.le_refl _) _
    have BX : Hid (∀ wr, Below (w.heap.size + 1) (w.alloc (.cells #[.int .i64 k, .bool b, .int .i64 n, .string s, .slice la l.length lc, .slice ma m.length mc] 25)) wr → ∀ j v, (#[.int .i64 k, .bool b, .int .i64 n, .string s, .slice la l.length lc, .slice ma m.length mc] : Array Value)[j]? = some v → wr.cell? ⟨w.heap.size, j, none⟩ = some v) := fun wr hb j v h => (hb.cell (p := ⟨w.heap.size, j, none⟩) (by simp)).trans (hx j v h)
    have HS := Lib.hid (one_value (H.out.later hb1))
    have HB1 := Lib.hid hb1
    have hsz : (w.alloc (.cells #[.int .i64 k, .bool b, .int .i64 n, .string s, .slice la l.length lc, .slice ma m.length mc] 25)).heap.size = w.heap.size + 1 := by simp
    have hr := right_any HS.out _ (Below.refl _ _)
    rw [hsz] at hr
    have HR : Hid (Calls Tryd.prog 8 #[.slice (some ⟨w.heap.size + 1, 0, none⟩) 1 1] ((w.alloc (.cells #[.int .i64 k, .bool b, .int .i64 n, .string s, .slice la l.length lc, .slice ma m.length mc] 25)).alloc (.cells #[.int .i64 k, .bool b, .int .i64 n, .string s, .slice la l.length lc, .slice ma m.length mc] 25)) fun e w' => e = .returned (.bool ([T.mk k b n s l m].all T.good)) ∧ Below ((w.alloc (.cells #[.int .i64 k, .bool b, .int .i64 n, .string s, .slice la l.length lc, .slice ma m.length mc] 25)).alloc (.cells #[.int .i64 k, .bool b, .int .i64 n, .string s, .slice la l.length lc, .slice ma m.length mc] 25)).heap.size ((w.alloc (.cells #[.int .i64 k, .bool b, .int .i64 n, .string s, .slice la l.length lc, .slice ma m.length mc] 25)).alloc (.cells #[.int .i64 k, .bool b, .int .i64 n, .string s, .slice la l.length lc, .slice ma m.length mc] 25)) w') := hr
    clear hr hsz
    have hb2 : Below (w.heap.size + 1) (w.alloc (.cells #[.int .i64 k, .bool b, .int .i64 n, .string s, .slice la l.length lc, .slice ma m.length mc] 25)) ((w.alloc (.cells #[.int .i64 k, .bool b, .int .i64 n, .string s, .slice la l.length lc, .slice ma m.length mc] 25)).alloc (.cells #[.int .i64 k, .bool b, .int .i64 n, .string s, .slice la l.length lc, .slice ma m.length mc] 25)) := (Below.refl _ _).alloc (by simp) _
    have HB2 := Lib.hid hb2
    have c0 := hx 0 _ rfl
    have c1 := hx 1 _ rfl
    have c2 := hx 2 _ rfl
    have c3 := hx 3 _ rfl
    have c4 := hx 4 _ rfl
    have c5 := hx 5 _ rfl
    clear hx hb1 hb2
    by_cases hz : z.size ≤ 500
    case neg =>
      go_enter Tryd.func3, Tryd.ntmps3
      go_wp2_with (go_at_call 9; refine (law4awake_any _).mono ?_; rintro e w3 ⟨rfl, hb⟩
                   have HC3 := Lib.hid (HB1.out.trans (hb.mono HB1.out.size))
                   clear hb)
      go_ret
      exact ⟨rfl, HC3.out⟩
    cases hg : (T.mk k b n s l m).good with
    | false =>
      have HG : Hid (([T.mk k b n s l m].all T.good) = false) := by show _ = _; rw [List.all_cons, hg]; rfl
      clear hg
      go_enter Tryd.func3, Tryd.ntmps3
      go_wp2_with (first
        | (go_at_call 8; refine HR.out.mono ?_; rintro e w2 ⟨he, hb⟩
           rw [HG.out] at he
           subst he
           have HD2 := Lib.hid (HB2.out.trans (hb.mono (by simp)))
           have HC2 := Lib.hid (HB1.out.trans (HD2.out.mono (by omega)))
           clear hb c0 c1 c2 c3 c4 c5)
        | (go_at_call 9; refine (law4awake_any _).mono ?_; rintro e w3 ⟨rfl, hb⟩
           have HC3 := Lib.hid (HC2.out.trans (hb.mono HC2.out.size))
           clear hb))
      go_ret
      exact ⟨rfl, HC3.out⟩
    | true =>
      have HG : Hid (([T.mk k b n s l m].all T.good) = true) := by show _ = _; rw [List.all_cons, hg]; rfl
      obtain ⟨g0, g5, gs⟩ := good_any hg
      have hwf := (Lit.wf_int_iff _ _).1 HWN.out
      have e1 : IntKind.i64.min = -9223372036854775808 := by decide
      have e2 : IntKind.i64.max = 9223372036854775807 := by decide
      rw [e1, e2] at hwf
      obtain ⟨hn0, hn1⟩ := hwf
      clear e1 e2 hg
      obtain ⟨k', b', n', x', c, ⟨q1, q2, q3, q4, q5⟩, PC, PR⟩ := parse_both z (by omega)
      have HPC := Lib.hid PC
      have HPR := Lib.hid PR
      clear PC PR
      have hn' : (Lit.int .i64 n').wf = true := (Lit.wf_int_iff _ _).2 ⟨q4, q5⟩
      have hk' : (Lit.int .i64 k').wf = true := (Lit.wf_int_iff _ _).2 ⟨by show (-9223372036854775808 : Int) ≤ k'; omega, by show k' ≤ (9223372036854775807 : Int); omega⟩
      have HLV : Hid (∀ W, Lies W (fun _ => True) (.mk k' b' n' x' [] []) (six k' b' n' x')) := fun W => leaf_lies W k' b' n' x' hk' hn' (by omega)
      clear hn' hk'
      go_enter Tryd.func3, Tryd.ntmps3
      go_upto_region 5 with (first
        | (go_at_call 8; refine HR.out.mono ?_; rintro e w2 ⟨he, hb⟩
           rw [HG.out] at he
           subst he
           have HD2 := Lib.hid (HB2.out.trans (hb.mono (by simp)))
           have HC2 := Lib.hid (HB1.out.trans (HD2.out.mono (by omega)))
           clear hb c0 c1 c2 c3 c4 c5)
        | (go_at_call 10; refine (HPC.out w2 ev ((HC2.out.cell (p := ⟨1, 0, none⟩) HE2.out).trans HE0.out) HE1.out (Nat.lt_of_lt_of_le HE2.out HC2.out.size)).mono ?_; rintro e w3 ⟨rfl, hb⟩
           have HC3 := Lib.hid (HC2.out.trans (hb.mono HC2.out.size))
           have HD3 := Lib.hid (HD2.out.trans (hb.mono (by have := HD2.out.size; simp only [World.size_alloc] at this ⊢; omega)))
           clear hb)
        | (go_at_call 11; refine (HPR.out _).mono ?_; rintro e w4 ⟨rfl, hb⟩
           have HX4 := Lib.hid hb
           clear hb))
      have hx4 : Below (w3.heap.size + 1) (w3.alloc (.cells #[.int .i64 k', .bool b', .int .i64 n', .string x', .slice none 0 0, .slice none 0 0] 25)) w4 := HX4.out.mono (by simp)
      have hs4 : w3.heap.size + 1 ≤ w4.heap.size := by have := HX4.out.size; simp only [World.size_alloc] at this; omega
      have hc4 : Below w.heap.size w w4 := (HC3.out.alloc HC3.out.size _).trans (HX4.out.mono (by have := HC3.out.size; simp only [World.size_alloc]; omega))
      have hd4 : Below (w.heap.size + 1) (w.alloc (.cells #[.int .i64 k, .bool b, .int .i64 n, .string s, .slice la l.length lc, .slice ma m.length mc] 25)) w4 := (HD3.out.alloc (by have := HD3.out.size; simp only [World.size_alloc] at this ⊢; omega) _).trans (HX4.out.mono (by have := HD3.out.size; simp only [World.size_alloc] at this ⊢; omega))
      generalize hW5 : w4.alloc (.cells #[.int .i64 k', .bool b', .int .i64 n', .string x', .slice none 0 0, .slice none 0 0] 25) = W5
      have hc5 : Below w.heap.size w W5 := by rw [← hW5]; exact hc4.alloc hc4.size _
      have hd5 : Below (w.heap.size + 1) (w.alloc (.cells #[.int .i64 k, .bool b, .int .i64 n, .string s, .slice la l.length lc, .slice ma m.length mc] 25)) W5 := by rw [← hW5]; exact hd4.alloc (by have := hd4.size; simp only [World.size_alloc] at this ⊢; omega) _
      have hx5 : Below (w3.heap.size + 1) (w3.alloc (.cells #[.int .i64 k', .bool b', .int .i64 n', .string x', .slice none 0 0, .slice none 0 0] 25)) W5 := by rw [← hW5]; exact hx4.alloc (by omega) _
      have fx : ∀ j v, (#[.int .i64 k', .bool b', .int .i64 n', .string x', .slice none 0 0, .slice none 0 0] : Array Value)[j]? = some v → W5.cell? ⟨w3.heap.size, j, none⟩ = some v := fun j v h => (hx5.cell (p := ⟨w3.heap.size, j, none⟩) (by simp)).trans (by rw [World.cell?_alloc_new]; exact h)
      have fy : ∀ j v, (#[.int .i64 k', .bool b', .int .i64 n', .string x', .slice none 0 0, .slice none 0 0] : Array Value)[j]? = some v → W5.cell? ⟨w4.heap.size, j, none⟩ = some v := fun j v h => by rw [← hW5, World.cell?_alloc_new]; exact h
      have va0 := BX.out _ hd5 0 _ rfl
      have ra0 := cell_regrown va0
      have vx0 := fx 0 _ rfl
      have rx0 := cell_regrown vx0
      have vy0 := fy 0 _ rfl
      have ry0 := cell_regrown vy0
      have va1 := BX.out _ hd5 1 _ rfl
      have ra1 := cell_regrown va1
      have vx1 := fx 1 _ rfl
      have rx1 := cell_regrown vx1
      have vy1 := fy 1 _ rfl
      have ry1 := cell_regrown vy1
      have va2 := BX.out _ hd5 2 _ rfl
      have ra2 := cell_regrown va2
      have vx2 := fx 2 _ rfl
      have rx2 := cell_regrown vx2
      have vy2 := fy 2 _ rfl
      have ry2 := cell_regrown vy2
      have va3 := BX.out _ hd5 3 _ rfl
      have ra3 := cell_regrown va3
      have vx3 := fx 3 _ rfl
      have rx3 := cell_regrown vx3
      have vy3 := fy 3 _ rfl
      have ry3 := cell_regrown vy3
      have va4 := BX.out _ hd5 4 _ rfl
      have ra4 := cell_regrown va4
      have vx4 := fx 4 _ rfl
      have rx4 := cell_regrown vx4
      have vy4 := fy 4 _ rfl
      have ry4 := cell_regrown vy4
      have va5 := BX.out _ hd5 5 _ rfl
      have ra5 := cell_regrown va5
      have vx5 := fx 5 _ rfl
      have rx5 := cell_regrown vx5
      have vy5 := fy 5 _ rfl
      have ry5 := cell_regrown vy5
      have HC5 := Lib.hid hc5
      have T1 := fun W => cPrint_all k b n s la l.length lc ma m.length mc g0 g5 (by omega) hn0 hn1 W
      have T2 := fun W => r4Print_all k b n s la l.length lc ma m.length mc g0 g5 (by omega) hn0 hn1 W
      have T3 := fun W => cText_all k b n s la l.length lc ma m.length mc g0 g5 (by omega) hn0 hn1 W
      have T4 := fun W => r4Text_all k b n s la l.length lc ma m.length mc g0 g5 (by omega) hn0 hn1 W
      have T5 := fun W => calls_below (cBare_any z (by omega) W)
      have T6 := fun W => calls_below (r4Bare_any z (by omega) W)
      have T7 := fun W => rSame_any (HLV.out W) (HLV.out W) W (Below.refl _ _)
      simp only [T.same_self] at T7
      have P5 : Pow10 W5 := HP0.out.below hc5
      generalize bareL z.data.toList = y0 at T5 T6
      generalize printB k b n s = y1 at T1 T2
      generalize saidB k b n s = y2 at T3 T4
      have Q0 := fun dd os => Calls.regrown_of (law4awake_any (grow (redrawn W5 dd) os))
      have Q1 := fun dd os => Calls.regrown_of (T7 (grow (redrawn W5 dd) os))
      have Q2 := fun dd os => Calls.regrown_of (T5 (grow (redrawn W5 dd) os))
      have Q3 := fun dd os => Calls.regrown_of (T6 (grow (redrawn W5 dd) os))
      have Q4 := fun dd os => Calls.regrown_of (T1 (grow (redrawn W5 dd) os) (P5.below (below_regrown W5 dd os)))
      have Q5 := fun dd os => Calls.regrown_of (T2 (grow (redrawn W5 dd) os))
      have Q6 := fun dd os => Calls.regrown_of (T3 (grow (redrawn W5 dd) os) (P5.below (below_regrown W5 dd os)))
      have Q7 := fun dd os => Calls.regrown_of (T4 (grow (redrawn W5 dd) os))
      clear T1 T2 T3 T4 T5 T6 T7 fx fy hx5 hd5 hc5 hd4 hc4 hx4 hs4 hW5 P5
      refine wp_region_quiet_below (by kernel_rfl) (by kernel_rfl) ?_
      repeat (go_big_quiet_step (fail))
      go_big_quiet_step (exact Q0 _ _)
      repeat (go_big_quiet_step (fail))
      go_big_quiet_step (exact Q1 _ _)
      repeat (go_big_quiet_step (fail))
      go_big_quiet_step (exact Q2 _ _)
      repeat (go_big_quiet_step (fail))
      go_big_quiet_step (exact Q3 _ _)
      repeat (go_big_quiet_step (fail))
      go_big_quiet_step (exact Q4 _ _)
      repeat (go_big_quiet_step (fail))
      go_big_quiet_step (exact Q5 _ _)
      repeat (go_big_quiet_step (fail))
      go_big_quiet_step (exact Q6 _ _)
      repeat (go_big_quiet_step (fail))
      go_big_quiet_step (exact Q7 _ _)
      repeat (go_big_quiet_step (fail))
      refine wpQuiet_nil ?_
      intro _ hw'
      obtain ⟨⟨dq, osq⟩, hw''⟩ := hw'
      subst hw''
      go_wp2_with fail
      go_ret
      exact ⟨rfl, bstep HC5.out (below_regrown W5 dq osq) HC5.out.size⟩

end Go.Proofs.YtfadijofnaepnaaDoor
