/-
  The reference's Same: are two values one?
-/
import Derived.Test.YtbmlmcoepmbelaaDoorGood
import Derived.Test.YtbmlmcoepmbelaaDoorCloneP
import Derived.Lib.QuietBelow
set_option linter.unusedVariables false
set_option linter.unusedSimpArgs false
namespace Go.Proofs.YtbmlmcoepmbelaaDoor
open Go.RowKit Go.Sort

theorem T.same_true {t u : T} (h : T.same t u = true) : t = u := @of_decide_eq_true _ (Classical.propDecidable _) h
theorem T.same_false {t u : T} (h : T.same t u = false) : t ≠ u := fun e => by rw [T.same_of_eq e] at h; cases h

theorem list_eq {α : Type} {l l' : List α} (hn : l.length = l'.length) (h : ∀ i (p : i < l.length) (q : i < l'.length), i < l.length → l[i] = l'[i]) : l = l' := List.ext_getElem hn fun i p q => h i p q p

set_option maxHeartbeats 1600000 in
theorem rSame_any {w0 : World} {R1 : Nat → Prop} {t : T} {cs : Array Value} (h : Lies w0 R1 t cs) : ∀ {R2 : Nat → Prop} {u : T} {ds : Array Value} (_ : Lies w0 R2 u ds) (w : World), Below w0.heap.size w0 w →
    Calls Tryd.prog 10 #[.agg cs, .agg ds] w fun e w' => e = .returned (.bool (T.same t u)) ∧ Below w.heap.size w w' := by
  induction h with
  | mk k b n s l m la lc ma mc cl cm hk hn hs hl hm rl rm ks il im ihl ihm =>
    intro R2 u ds hu w hw
    cases hu with
    | mk k2 b2 n2 s2 l2 m2 la2 lc2 ma2 mc2 cl2 cm2 hk2 hn2 hs2 hl2 hm2 rl2 rm2 ks2 il2 im2 =>
      have HB := Lib.hid (((Below.refl w.heap.size w).alloc (Nat.le_refl _) (.cells #[.int .i64 k, .bool b, .int .i64 n, .string s, .slice la l.length lc, .slice ma m.length mc] 25)).alloc (by simp) (.cells #[.int .i64 k2, .bool b2, .int .i64 n2, .string s2, .slice la2 l2.length lc2, .slice ma2 m2.length mc2] 25))
      have CL := Lib.hid (fun i (p : i < l.length) (q : i < l2.length) w hw => ihl i p (il2 i q) w hw)
      have CM := Lib.hid (fun i (p : i < m.length) (q : i < m2.length) w hw => ihm i p (im2 i q) w hw)
      have RL := Lib.hid rl
      have RL2 := Lib.hid rl2
      have RM := Lib.hid rm
      have RM2 := Lib.hid rm2
      have IL := Lib.hid il
      have IL2 := Lib.hid il2
      have IM := Lib.hid im
      have IM2 := Lib.hid im2
      clear rl rl2 rm rm2 il il2 im im2 ihl ihm ks ks2
      by_cases e1 : k = k2
      case neg =>
        have HR := Lib.hid (T.same_of_ne (t := .mk k b n s l m) (u := .mk k2 b2 n2 s2 l2 m2) fun e => e1 (by injection e))
        have f1 : (k != k2) = true := by simp [e1]
        clear e1
        go_enter Tryd.func10, Tryd.ntmps10
        go_wp2_with fail
        go_ret
        exact ⟨ret_bool HR.out.symm, HB.out⟩
      subst e1
      by_cases e2 : b = b2
      case neg =>
        have HR := Lib.hid (T.same_of_ne (t := .mk k b n s l m) (u := .mk k b2 n2 s2 l2 m2) fun e => e2 (by injection e))
        have f1 : (b == b2) = false := by simp [e2]
        clear e2
        go_enter Tryd.func10, Tryd.ntmps10
        go_wp2_with fail
        go_ret
        exact ⟨ret_bool HR.out.symm, HB.out⟩
      subst e2
      by_cases e3 : n = n2
      case neg =>
        have HR := Lib.hid (T.same_of_ne (t := .mk k b n s l m) (u := .mk k b n2 s2 l2 m2) fun e => e3 (by injection e))
        have f1 : (n != n2) = true := by simp [e3]
        clear e3
        go_enter Tryd.func10, Tryd.ntmps10
        go_wp2_with fail
        go_ret
        exact ⟨ret_bool HR.out.symm, HB.out⟩
      subst e3
      by_cases e4 : s = s2
      case neg =>
        have HR := Lib.hid (T.same_of_ne (t := .mk k b n s l m) (u := .mk k b n s2 l2 m2) fun e => e4 (by injection e))
        have f1 := str_ne e4
        clear e4
        go_enter Tryd.func10, Tryd.ntmps10
        go_wp2_with fail
        go_ret
        exact ⟨ret_bool HR.out.symm, HB.out⟩
      subst e4
      by_cases e5 : l.length = l2.length
      case neg =>
        have HR := Lib.hid (T.same_of_ne (t := .mk k b n s l m) (u := .mk k b n s l2 m2) fun e => e5 (by injection e with _ _ _ _ a _; rw [a]))
        have f1 : ((l.length : Int) != (l2.length : Int)) = true := by simp; omega
        clear e5
        go_enter Tryd.func10, Tryd.ntmps10
        go_wp2_with fail
        go_ret
        exact ⟨ret_bool HR.out.symm, HB.out⟩
      by_cases e6 : m.length = m2.length
      case neg =>
        have HR := Lib.hid (T.same_of_ne (t := .mk k b n s l m) (u := .mk k b n s l2 m2) fun e => e6 (by injection e with _ _ _ _ _ a; rw [a]))
        have f0 : ((l.length : Int) != (l2.length : Int)) = false := by simp [e5]
        have f1 : ((m.length : Int) != (m2.length : Int)) = true := by simp; omega
        clear e6 e5
        go_enter Tryd.func10, Tryd.ntmps10
        go_wp2_with fail
        go_ret
        exact ⟨ret_bool HR.out.symm, HB.out⟩
      have f0 : ((l.length : Int) != (l2.length : Int)) = false := by simp [e5]
      have f1 : ((m.length : Int) != (m2.length : Int)) = false := by simp [e6]
      have NL := Lib.hid (fun j (p : j < l.length) (q : j < l2.length) (hne : l[j] ≠ l2[j]) => T.same_of_ne (t := .mk k b n s l m) (u := .mk k b n s l2 m2) fun e => hne (by injection e with _ _ _ _ a _; subst a; rfl))
      have NK := Lib.hid (fun j (p : j < m.length) (q : j < m2.length) (hne : m[j].1 ≠ m2[j].1) => T.same_of_ne (t := .mk k b n s l m) (u := .mk k b n s l2 m2) fun e => hne (by injection e with _ _ _ _ _ a; subst a; rfl))
      have NM := Lib.hid (fun j (p : j < m.length) (q : j < m2.length) (hne : m[j].2 ≠ m2[j].2) => T.same_of_ne (t := .mk k b n s l m) (u := .mk k b n s l2 m2) fun e => hne (by injection e with _ _ _ _ _ a; subst a; rfl))
      have NE := Lib.hid (fun (p : l = l2) (q : m = m2) => T.same_of_eq (t := .mk k b n s l m) (u := .mk k b n s l2 m2) (by rw [p, q]))
      have L5 := Lib.hid e5
      have L6 := Lib.hid e6
      clear e5 e6
      have ll := hl.le
      have lx := hl.big
      have ll2 := hl2.le
      have lm := hm.le
      have lmx := hm.big
      have lm2 := hm2.le
      go_enter Tryd.func10, Tryd.ntmps10
      go_wp2_with fail
      go_loopw [5] (fun vi wr => ∃ j : Nat, j ≤ l.length ∧ vi = .int .i64 j ∧ Hid (∀ i (p : i < l.length) (q : i < l2.length), i < j → l[i] = l2[i]) ∧ Below (w.heap.size + 2) ((w.alloc (.cells #[.int .i64 k, .bool b, .int .i64 n, .string s, .slice la l.length lc, .slice ma m.length mc] 25)).alloc (.cells #[.int .i64 k, .bool b, .int .i64 n, .string s, .slice la2 l2.length lc2, .slice ma2 m2.length mc2] 25)) wr) (fun vi _ => l.length - (intOf vi).toNat)
      case atStart => exact ⟨0, by omega, rfl, fun i _ _ hi => absurd hi (Nat.not_lt_zero _), Below.refl _ _⟩
      case round =>
        obtain ⟨j, hj, rfl, h0, hbw⟩ := hrel
        have hsz : w.heap.size + 2 ≤ wr.heap.size := by have := hbw.size; simp at this; omega
        have hend : Below w.heap.size w wr := bstep HB.out hbw (by omega)
        have hbw2 := bstep hw hend hw.size
        obtain ⟨q0, q1, _, _⟩ := two_boxes hbw (by omega)
        by_cases hjl : j < l.length
        · have hj2 : j < l2.length := by have := L5.out; omega
          have b4 : wr.cell? ⟨w.heap.size, 4, none⟩ = some (.slice la l.length lc) := q0 4
          have d4 : wr.cell? ⟨w.heap.size + 1, 4, none⟩ = some (.slice la2 l2.length lc2) := q1 4
          have b4r := cell_regrown b4
          have d4r := cell_regrown d4
          clear q0 q1
          have CJ0 := CL.out j hjl hj2
          obtain ⟨bl, ol, c0, c1', c2', c3, c4, c4l, c4c, c5, c5l, c5c, rfl, hcl, r0, r1, r2, r3, r4, r5⟩ := openL hbw2 hl RL.out hjl (IL.out j hjl)
          obtain ⟨bl2, ol2, d0, d1, d2, d3, g4, g4l, g4c, g5, g5l, g5c, rfl, hdl, s0, s1, s2, s3, s4, s5⟩ := openL hbw2 hl2 RL2.out hj2 (IL2.out j hj2)
          rw [hcl, hdl] at CJ0
          clear hcl hdl
          have r0 := cell_regrown r0
          have r1 := cell_regrown r1
          have r2 := cell_regrown r2
          have r3 := cell_regrown r3
          have r4 := cell_regrown r4
          have r5 := cell_regrown r5
          have s0 := cell_regrown s0
          have s1 := cell_regrown s1
          have s2 := cell_regrown s2
          have s3 := cell_regrown s3
          have s4 := cell_regrown s4
          have s5 := cell_regrown s5
          cases hz : T.same l[j] l2[j] with
          | false =>
            rw [hz] at CJ0
            have CJ := fun dd os => Calls.regrown_of (CJ0 (grow (redrawn wr dd) os) (bstep hbw2 (below_regrown wr dd os) hbw2.size))
            have HZ := Lib.hid (NL.out j hjl hj2 (T.same_false hz))
            clear hz CJ0
            go_wp2_with fail
            refine wp_region_quiet_below (by kernel_rfl) (by kernel_rfl) ?_
            repeat (go_big_quiet_step (fail))
            go_big_quiet_step (exact CJ _ _)
            repeat (go_big_quiet_step (fail))
            refine wpQuiet_nil ?_
            intro _ hw'
            obtain ⟨⟨dq, osq⟩, hw''⟩ := hw'
            subst hw''
            have hbq := below_regrown wr dq osq
            simp only []
            generalize grow (redrawn wr dq) osq = w6 at hbq ⊢

            go_wp2_with fail
            go_ret
            exact ⟨ret_bool HZ.out.symm, bstep hend hbq hend.size⟩
          | true =>
            rw [hz] at CJ0
            have CJ := fun dd os => Calls.regrown_of (CJ0 (grow (redrawn wr dd) os) (bstep hbw2 (below_regrown wr dd os) hbw2.size))
            have HZ := Lib.hid (T.same_true hz)
            clear hz CJ0
            go_wp2_with fail
            refine wp_region_quiet_below (by kernel_rfl) (by kernel_rfl) ?_
            repeat (go_big_quiet_step (fail))
            go_big_quiet_step (exact CJ _ _)
            repeat (go_big_quiet_step (fail))
            refine wpQuiet_nil ?_
            intro _ hw'
            obtain ⟨⟨dq, osq⟩, hw''⟩ := hw'
            subst hw''
            have hbq := below_regrown wr dq osq
            simp only []
            generalize grow (redrawn wr dq) osq = w6 at hbq ⊢

            go_wp2_with fail
            go_roundw
            case rel => exact ⟨j + 1, by omega, by go_num, fun i p q hij => by
              by_cases e : i = j
              · subst e; exact HZ.out
              · exact h0.out i p q (by omega), bstep hbw hbq hsz⟩
            case measure => simp [intOf]; omega
        · obtain rfl : j = l.length := by omega
          have b4 : wr.cell? ⟨w.heap.size, 4, none⟩ = some (.slice la l.length lc) := q0 4
          clear q0 q1
          have HLL := Lib.hid (list_eq L5.out h0.out)
          go_wp2_with fail
          obtain ⟨wo, rfl⟩ : ∃ wo : World, wo = wr := ⟨_, rfl⟩
          have HO := Lib.hid hbw
          have HE := Lib.hid hend
          have HW := Lib.hid hbw2
          clear b4 h0 hbw hend hbw2 CL NL RL RL2 IL IL2
          go_loopw [6] (fun vi wr => ∃ j : Nat, j ≤ m.length ∧ vi = .int .i64 j ∧ Hid (∀ i (p : i < m.length) (q : i < m2.length), i < j → m[i] = m2[i]) ∧ Below wo.heap.size wo wr) (fun vi _ => m.length - (intOf vi).toNat)
          case atStart => exact ⟨0, by omega, rfl, fun i _ _ hi => absurd hi (Nat.not_lt_zero _), Below.refl _ _⟩
          case round =>
            obtain ⟨j, hj, rfl, h0, hbx⟩ := hrel
            have hbw := bstep HO.out hbx hsz
            have hend : Below w.heap.size w wr := bstep HE.out hbx HE.out.size
            have hbw2 := bstep HW.out hbx HW.out.size
            have hsx := hbx.size
            obtain ⟨q0, q1, _, _⟩ := two_boxes hbw (by omega)
            by_cases hjl : j < m.length
            · have hj2 : j < m2.length := by have := L6.out; omega
              have b5 : wr.cell? ⟨w.heap.size, 5, none⟩ = some (.slice ma m.length mc) := q0 5
              have d5 : wr.cell? ⟨w.heap.size + 1, 5, none⟩ = some (.slice ma2 m2.length mc2) := q1 5
              have b5r := cell_regrown b5
              have d5r := cell_regrown d5
              clear q0 q1
              have CJ0 := CM.out j hjl hj2
              obtain ⟨bl, ol, c0, c1', c2', c3, c4, c4l, c4c, c5, c5l, c5c, rfl, hcl, r0, r1, r2, r3, r4, r5, r6⟩ := openM hbw2 hm RM.out hjl (IM.out j hjl)
              obtain ⟨bl2, ol2, d0, d1, d2, d3, g4, g4l, g4c, g5, g5l, g5c, rfl, hdl, s0, s1, s2, s3, s4, s5, s6⟩ := openM hbw2 hm2 RM2.out hj2 (IM2.out j hj2)
              rw [hcl, hdl] at CJ0
              clear hcl hdl
              have r0 := cell_regrown r0
              have r1 := cell_regrown r1
              have r2 := cell_regrown r2
              have r3 := cell_regrown r3
              have r4 := cell_regrown r4
              have r5 := cell_regrown r5
              have r6 := cell_regrown r6
              have s0 := cell_regrown s0
              have s1 := cell_regrown s1
              have s2 := cell_regrown s2
              have s3 := cell_regrown s3
              have s4 := cell_regrown s4
              have s5 := cell_regrown s5
              have s6 := cell_regrown s6
              by_cases hky : m[j].1 = m2[j].1
              · have f7 : (m[j].1.toList == m2[j].1.toList) = true := by rw [hky]; simp
                have HK := Lib.hid hky
                clear hky
                cases hz : T.same m[j].2 m2[j].2 with
                | false =>
                  rw [hz] at CJ0
                  have CJ := fun dd os => Calls.regrown_of (CJ0 (grow (redrawn wr dd) os) (bstep hbw2 (below_regrown wr dd os) hbw2.size))
                  have HZ := Lib.hid (NM.out j hjl hj2 (T.same_false hz))
                  clear hz CJ0
                  go_wp2_with fail
                  refine wp_region_quiet_below (by kernel_rfl) (by kernel_rfl) ?_
                  repeat (go_big_quiet_step (fail))
                  go_big_quiet_step (exact CJ _ _)
                  repeat (go_big_quiet_step (fail))
                  refine wpQuiet_nil ?_
                  intro _ hw'
                  obtain ⟨⟨dq, osq⟩, hw''⟩ := hw'
                  subst hw''
                  have hbq := below_regrown wr dq osq
                  simp only []
                  generalize grow (redrawn wr dq) osq = w6 at hbq ⊢

                  go_wp2_with fail
                  go_ret
                  exact ⟨ret_bool HZ.out.symm, bstep hend hbq hend.size⟩
                | true =>
                  rw [hz] at CJ0
                  have CJ := fun dd os => Calls.regrown_of (CJ0 (grow (redrawn wr dd) os) (bstep hbw2 (below_regrown wr dd os) hbw2.size))
                  have HZ := Lib.hid (T.same_true hz)
                  clear hz CJ0
                  go_wp2_with fail
                  refine wp_region_quiet_below (by kernel_rfl) (by kernel_rfl) ?_
                  repeat (go_big_quiet_step (fail))
                  go_big_quiet_step (exact CJ _ _)
                  repeat (go_big_quiet_step (fail))
                  refine wpQuiet_nil ?_
                  intro _ hw'
                  obtain ⟨⟨dq, osq⟩, hw''⟩ := hw'
                  subst hw''
                  have hbq := below_regrown wr dq osq
                  simp only []
                  generalize grow (redrawn wr dq) osq = w6 at hbq ⊢

                  go_wp2_with fail
                  go_roundw
                  case rel => exact ⟨j + 1, by omega, by go_num, fun i p q hij => by
                    by_cases e : i = j
                    · subst e; exact Prod.ext HK.out HZ.out
                    · exact h0.out i p q (by omega), bstep hbx hbq hsx⟩
                  case measure => simp [intOf]; omega
              · have f7 := str_ne hky
                have HZ := Lib.hid (NK.out j hjl hj2 hky)
                clear hky CJ0
                go_wp2_with fail
                refine wp_region_quiet_below (by kernel_rfl) (by kernel_rfl) ?_
                repeat (go_big_quiet_step (fail))
                refine wpQuiet_nil ?_
                intro _ hw'
                obtain ⟨⟨dq, osq⟩, hw''⟩ := hw'
                subst hw''
                have hbq := below_regrown wr dq osq
                simp only []
                generalize grow (redrawn wr dq) osq = w6 at hbq ⊢

                go_wp2_with fail
                go_ret
                exact ⟨ret_bool HZ.out.symm, bstep hend hbq hend.size⟩
            · obtain rfl : j = m.length := by omega
              have b5 : wr.cell? ⟨w.heap.size, 5, none⟩ = some (.slice ma m.length mc) := q0 5
              clear q0 q1
              have HZ := Lib.hid (NE.out HLL.out (list_eq L6.out h0.out))
              go_wp2_with fail
              go_ret
              exact ⟨ret_bool HZ.out.symm, hend⟩

end Go.Proofs.YtbmlmcoepmbelaaDoor
