/-
  The reference's Compare: it is package tree's.
-/
import Derived.Test.YtnfmmgbghbaecaaGood
import Derived.Test.YtnfmmgbghbaecaaCloneP
import Derived.Lib.QuietBelow
set_option linter.unusedVariables false
set_option linter.unusedSimpArgs false
namespace Go.Proofs.Ytnfmmgbghbaecaa
open Go.RowKit Go.Sort

def befV (a b : Bool) : Int := if a = true then -1 else if b = true then 1 else 0
theorem rbefore_any (a b : Bool) (w : World) : Calls Try.prog 76 #[.bool a, .bool b] w fun e w' => e = .returned (.int .i64 (befV a b)) ∧ w = w' := by
  cases a <;> cases b
  all_goals
    go_enter Try.func76, Try.ntmps76
    go_wp2
    go_ret
    exact ⟨rfl, rfl⟩

theorem below_of_eq {P : Program} {f : FuncId} {args : Array Value} {w : World} {v : Value} (h : Calls P f args w fun e w' => e = .returned v ∧ w = w') : Calls P f args w fun e w' => e = .returned v ∧ Below w.heap.size w w' :=
  h.mono fun e w' h => ⟨h.1, h.2 ▸ Below.refl _ _⟩

theorem bytesLess_G : ∀ a b : List UInt8, cmpG cmpU a b = befV (Op.bytesLess a b) (Op.bytesLess b a)
  | [], [] => by rw [cmpG]; simp [Op.bytesLess, befV]
  | [], _ :: _ => by rw [cmpG]; simp [Op.bytesLess, befV]
  | _ :: _, [] => by rw [cmpG]; simp [Op.bytesLess, befV]
  | x :: r, y :: q => by
    rw [cmpG, bytesLess_G r q, Op.bytesLess, Op.bytesLess]
    unfold cmpU cmpI befV
    by_cases h : x.toNat < y.toNat
    · simp [h, UInt8.lt_iff_toNat_lt]
    · by_cases h2 : y.toNat < x.toNat
      · have hne : x ≠ y := fun e => by subst e; omega
        simp [h, h2, UInt8.lt_iff_toNat_lt, hne]
      · have e : x = y := by
          have : x.toNat = y.toNat := by omega
          exact UInt8.toNat_inj.1 this
        subst e
        simp
theorem cmpS_less (a b : ByteArray) : cmpS a b = befV (Op.bytesLess a.toList b.toList) (Op.bytesLess b.toList a.toList) := by
  unfold cmpS
  rw [compareBytes_G, bytesLess_G, ByteArray.toList_eq, ByteArray.toList_eq]
theorem cmpS_ne {a b : ByteArray} (h : a ≠ b) : cmpS a b ≠ 0 := fun e => h (cmpS_zero e)
theorem cmpS_before {a b : ByteArray} (h : a ≠ b) : cmpS a b = befV (Op.bytesLess a.toList b.toList) true := by
  unfold befV
  have h1 := cmpS_less a b
  unfold befV at h1
  have h2 := cmpS_ne h
  by_cases e : Op.bytesLess a.toList b.toList = true
  · rw [if_pos e] at h1 ⊢; exact h1
  · rw [if_neg e] at h1 ⊢
    by_cases e2 : Op.bytesLess b.toList a.toList = true
    · rw [if_pos e2] at h1; rw [h1]; rfl
    · rw [if_neg e2] at h1; exact absurd h1 h2
theorem less_gtr (a b : ByteArray) : Op.bytesLess b.toList a.toList = (!Op.bytesLess a.toList b.toList && !a.toList == b.toList) := by
  have h1 := cmpS_less a b
  have h2 := cmpS_less b a
  have h3 := (ord_cmpS a).anti b
  rw [h1, h2] at h3
  by_cases e : a = b
  · subst e
    cases hx : Op.bytesLess a.toList a.toList with
    | true => rw [hx] at h3; exact absurd h3 (by decide)
    | false => simp
  · rw [str_ne e]
    have h4 := cmpS_ne e
    rw [h1] at h4
    revert h3 h4
    cases Op.bytesLess a.toList b.toList <;> cases Op.bytesLess b.toList a.toList <;> decide
theorem cmpS_gtr (a b : ByteArray) : cmpS a b = befV (Op.bytesLess a.toList b.toList) (!Op.bytesLess a.toList b.toList && !a.toList == b.toList) := (cmpS_less a b).trans (congrArg (befV _) (less_gtr a b))
theorem cmpP_key {p q : ByteArray × T} (h : p.1 ≠ q.1) : cmpP p q = cmpS p.1 q.1 := by unfold cmpP; rw [if_pos h]

set_option maxRecDepth 100000 in
set_option maxHeartbeats 3200000 in
theorem rCompare_any {w0 : World} {R1 : Nat → Prop} {t : T} {cs : Array Value} (h : Lies w0 R1 t cs) : ∀ {R2 : Nat → Prop} {u : T} {ds : Array Value} (_ : Lies w0 R2 u ds) (w : World), Below w0.heap.size w0 w →
    Calls Try.prog 32 #[.agg cs, .agg ds] w fun e w' => e = .returned (.int .i64 (T.cmp t u)) ∧ Below w.heap.size w w' := by
  induction h with
  | mk k b n s l m la lc ma mc cl cm hk hn hs hl hm rl rm ks il im ihl ihm =>
    intro R2 u ds hu w hw
    cases hu with
    | mk k2 b2 n2 s2 l2 m2 la2 lc2 ma2 mc2 cl2 cm2 hk2 hn2 hs2 hl2 hm2 rl2 rm2 ks2 il2 im2 =>
      have E := T.cmp_mk k b n s l m k2 b2 n2 s2 l2 m2
      have HB := Lib.hid (((Below.refl w.heap.size w).alloc (Nat.le_refl _) (.cells #[.int .i64 k, .bool b, .int .i64 n, .string s, .slice la l.length lc, .slice ma m.length mc] 25)).alloc (by simp) (.cells #[.int .i64 k2, .bool b2, .int .i64 n2, .string s2, .slice la2 l2.length lc2, .slice ma2 m2.length mc2] 25))
      have CL := Lib.hid (fun i (p : i < l.length) (q : i < l2.length) w hw => ihl i p (il2 i q) w hw)
      have CM := Lib.hid (fun i (p : i < m.length) (q : i < m2.length) w hw => ihm i p (im2 i q) w hw)
      have RL := Lib.hid rl
      have RL2 := Lib.hid rl2
      have RM := Lib.hid rm
      have RM2 := Lib.hid rm2
      have IL := Lib.hid il
      have IL2 := Lib.hid il2
      have IM := Lib.hid im
      have IM2 := Lib.hid im2
      have ll := hl.le
      have lx := hl.big
      have ll2 := hl2.le
      have lx2 := hl2.big
      have lm := hm.le
      have lmx := hm.big
      have lm2 := hm2.le
      have lmx2 := hm2.big
      clear rl rl2 rm rm2 il il2 im im2 ihl ihm ks ks2
      by_cases hkk : k = k2
      case neg =>
        rw [if_pos hkk] at E
        have f1 : (k != k2) = true := by simp [hkk]
        have E2 : Hid (T.cmp (.mk k b n s l m) (.mk k2 b2 n2 s2 l2 m2) = befV (decide (k < k2)) true) := by
          show _ = _
          rw [E]
          unfold cmpI befV
          by_cases h : k < k2
          · simp [h]
          · simp [h]; omega
        clear E hkk
        go_enter Try.func32, Try.ntmps32
        go_wp2_with fail
        refine (rbefore_any _ _ _).mono ?_
        rintro e w1 ⟨rfl, rfl⟩
        go_wp2_with fail
        go_ret
        exact ⟨ret_int E2.out.symm, HB.out⟩
      subst hkk
      rw [if_neg (by simp)] at E
      by_cases h1 : k = 1
      · rw [if_pos h1] at E
        have HE := Lib.hid E
        subst h1
        clear E CL CM RL RL2 RM RM2 IL IL2 IM IM2
        cases b <;> cases b2
        all_goals
          go_enter Try.func32, Try.ntmps32
          go_wp2_with fail
          refine (rbefore_any _ _ _).mono ?_
          rintro e w1 ⟨rfl, rfl⟩
          go_wp2_with fail
          go_ret
          exact ⟨ret_int HE.out.symm, HB.out⟩
      rw [if_neg h1] at E
      by_cases h2 : k = 2
      · rw [if_pos h2] at E
        have E2 : Hid ((T.mk k b n s l m).cmp (T.mk k b2 n2 s2 l2 m2) = befV (decide (n < n2)) (decide (n2 < n))) := by
          refine E.trans ?_
          unfold cmpI befV
          by_cases h : n < n2
          · simp [h]
          · by_cases h' : n2 < n
            · simp [h, h']
            · simp [h, h']
        subst h2
        clear E h1 CL CM RL RL2 RM RM2 IL IL2 IM IM2
        go_enter Try.func32, Try.ntmps32
        go_wp2_with fail
        refine (rbefore_any _ _ _).mono ?_
        rintro e w1 ⟨rfl, rfl⟩
        go_wp2_with fail
        go_ret
        exact ⟨ret_int E2.out.symm, HB.out⟩
      rw [if_neg h2] at E
      by_cases h3 : k = 3
      · rw [if_pos h3, cmpS_gtr] at E
        have HE := Lib.hid E
        subst h3
        clear E h1 h2 CL CM RL RL2 RM RM2 IL IL2 IM IM2
        go_enter Try.func32, Try.ntmps32
        go_wp2_with fail
        refine (rbefore_any _ _ _).mono ?_
        rintro e w1 ⟨rfl, rfl⟩
        go_wp2_with fail
        go_ret
        exact ⟨ret_int HE.out.symm, HB.out⟩
      rw [if_neg h3] at E
      by_cases h4 : k = 4
      · rw [if_pos h4, cmpL_G] at E
        have HE := Lib.hid E
        have EH := Lib.hid (cmpG_hit T.cmp l l2)
        have EL := Lib.hid (cmpG_long T.cmp l l2)
        have ES := Lib.hid (cmpG_short T.cmp l l2)
        have EE := Lib.hid (cmpG_same T.cmp l l2)
        subst h4
        clear E h1 h2 h3 CM RM RM2 IM IM2
        go_enter Try.func32, Try.ntmps32
        go_wp2_with fail
        go_loopw [5] (fun vi wr => ∃ j : Nat, j ≤ l.length ∧ j ≤ l2.length ∧ vi = .int .i64 j ∧ Hid (∀ i (p : i < l.length) (q : i < l2.length), i < j → T.cmp l[i] l2[i] = 0) ∧ Below (w.heap.size + 2) ((w.alloc (.cells #[.int .i64 4, .bool b, .int .i64 n, .string s, .slice la l.length lc, .slice ma m.length mc] 25)).alloc (.cells #[.int .i64 4, .bool b2, .int .i64 n2, .string s2, .slice la2 l2.length lc2, .slice ma2 m2.length mc2] 25)) wr) (fun vi _ => l.length - (intOf vi).toNat)
        case atStart => exact ⟨0, by omega, by omega, rfl, fun i _ _ hi => absurd hi (Nat.not_lt_zero _), Below.refl _ _⟩
        case round =>
          obtain ⟨j, hj, hj2, rfl, h0, hbw⟩ := hrel
          have hsz : w.heap.size + 2 ≤ wr.heap.size := by have := hbw.size; simp at this; omega
          have hend : Below w.heap.size w wr := bstep HB.out hbw (by omega)
          have hbw2 := bstep hw hend hw.size
          obtain ⟨q0, q1, _, _⟩ := two_boxes hbw (by omega)
          have b4 : wr.cell? ⟨w.heap.size, 4, none⟩ = some (.slice la l.length lc) := q0 4
          have d4 : wr.cell? ⟨w.heap.size + 1, 4, none⟩ = some (.slice la2 l2.length lc2) := q1 4
          clear q0 q1
          by_cases hjb : j < l.length ∧ j < l2.length
          · obtain ⟨hjl, hjy⟩ := hjb
            have b4r := cell_regrown b4
            have d4r := cell_regrown d4
            have CJ0 := CL.out j hjl hjy
            obtain ⟨bl, ol, c0, c1', c2', c3, c4, c4l, c4c, c5, c5l, c5c, rfl, hcl, r0, r1, r2, r3, r4, r5⟩ := openL hbw2 hl RL.out hjl (IL.out j hjl)
            obtain ⟨bl2, ol2, d0, d1, d2, d3, g4, g4l, g4c, g5, g5l, g5c, rfl, hdl, s0, s1, s2, s3, s4, s5⟩ := openL hbw2 hl2 RL2.out hjy (IL2.out j hjy)
            rw [hcl, hdl] at CJ0
            have CJ0 := Lib.hid CJ0
            clear hcl hdl
            have r0 := cell_regrown r0
            have r1 := cell_regrown r1
            have r2 := cell_regrown r2
            have r3 := cell_regrown r3
            have r4 := cell_regrown r4
            have r5 := cell_regrown r5
            have s0 := cell_regrown s0
            have s1 := cell_regrown s1
            have s2 := cell_regrown s2
            have s3 := cell_regrown s3
            have s4 := cell_regrown s4
            have s5 := cell_regrown s5
            by_cases hz : T.cmp l[j] l2[j] = 0
            · have HZ2 : (T.cmp l[j] l2[j] != 0) = false := by rw [hz]; rfl
              have CJ := fun dd os => Calls.regrown_of (CJ0.out (grow (redrawn wr dd) os) (bstep hbw2 (below_regrown wr dd os) hbw2.size))
              have HZ := Lib.hid hz
              clear hz
              go_wp2_with fail
              refine wp_region_quiet_below (by kernel_rfl) (by kernel_rfl) ?_
              repeat (go_big_quiet_step (fail))
              go_big_quiet_step (exact CJ _ _)
              repeat (go_big_quiet_step (fail))
              refine wpQuiet_nil ?_
              intro _ hw'
              obtain ⟨⟨dq, osq⟩, hw''⟩ := hw'
              subst hw''
              have hbq := below_regrown wr dq osq
              simp only []
              generalize grow (redrawn wr dq) osq = w6 at hbq ⊢

              go_wp2_with fail
              go_roundw
              case rel => exact ⟨j + 1, by omega, by omega, by go_num, fun i p q hij => by
                by_cases e : i = j
                · subst e; exact HZ.out
                · exact h0.out i p q (by omega), bstep hbw hbq hsz⟩
              case measure => simp [intOf]; omega
            · have HZ2 : (T.cmp l[j] l2[j] != 0) = true := ne_form hz
              have CJ := fun dd os => Calls.regrown_of (CJ0.out (grow (redrawn wr dd) os) (bstep hbw2 (below_regrown wr dd os) hbw2.size))
              have HZ := Lib.hid (EH.out j hjl hjy h0.out hz)
              clear hz
              go_wp2_with fail
              refine wp_region_quiet_below (by kernel_rfl) (by kernel_rfl) ?_
              repeat (go_big_quiet_step (fail))
              go_big_quiet_step (exact CJ _ _)
              repeat (go_big_quiet_step (fail))
              refine wpQuiet_nil ?_
              intro _ hw'
              obtain ⟨⟨dq, osq⟩, hw''⟩ := hw'
              subst hw''
              have hbq := below_regrown wr dq osq
              simp only []
              generalize grow (redrawn wr dq) osq = w6 at hbq ⊢

              go_wp2_with fail
              go_ret
              exact ⟨ret_int (HE.out.trans HZ.out).symm, bstep hend hbq hend.size⟩
          · rcases (by omega : l.length < l2.length ∨ l2.length < l.length ∨ l.length = l2.length) with hlt | hlt | hlt
            · obtain rfl : j = l.length := by omega
              have HZ := Lib.hid (HE.out.trans (ES.out hlt h0.out))
              have f8 : decide ((l2.length : Int) < (l.length : Int)) = false := by simp; omega
              clear hjb h0
              go_wp2_with fail
              refine (rbefore_any _ _ _).mono ?_
              rintro e w3 ⟨rfl, rfl⟩
              go_wp2_with fail
              go_ret
              exact ⟨ret_int (by rw [HZ.out]; unfold befV; simp <;> omega), hend⟩
            · obtain rfl : j = l2.length := by omega
              have HZ := Lib.hid (HE.out.trans (EL.out hlt h0.out))
              clear hjb h0
              go_wp2_with fail
              refine (rbefore_any _ _ _).mono ?_
              rintro e w3 ⟨rfl, rfl⟩
              go_wp2_with fail
              go_ret
              exact ⟨ret_int (by rw [HZ.out]; unfold befV; simp <;> omega), hend⟩
            · obtain rfl : j = l.length := by omega
              have HZ := Lib.hid (HE.out.trans (EE.out hlt h0.out))
              have f8 : ¬ (l.length < l2.length) := by omega
              have f9 : ¬ (l2.length < l.length) := by omega
              clear hjb h0
              clear hlt
              go_wp2_with fail
              refine (rbefore_any _ _ _).mono ?_
              rintro e w3 ⟨rfl, rfl⟩
              go_wp2_with fail
              go_ret
              exact ⟨ret_int (by rw [HZ.out]; unfold befV; simp <;> omega), hend⟩
      rw [if_neg h4] at E
      by_cases h5 : k = 5
      · rw [if_pos h5, cmpM_G] at E
        have HE := Lib.hid E
        have EH := Lib.hid (cmpG_hit cmpP m m2)
        have EL := Lib.hid (cmpG_long cmpP m m2)
        have ES := Lib.hid (cmpG_short cmpP m m2)
        have EE := Lib.hid (cmpG_same cmpP m m2)
        subst h5
        clear E h1 h2 h3 h4 CL RL RL2 IL IL2
        go_enter Try.func32, Try.ntmps32
        go_wp2_with fail
        go_loopw [7] (fun vi wr => ∃ j : Nat, j ≤ m.length ∧ j ≤ m2.length ∧ vi = .int .i64 j ∧ Hid (∀ i (p : i < m.length) (q : i < m2.length), i < j → cmpP m[i] m2[i] = 0) ∧ Below (w.heap.size + 2) ((w.alloc (.cells #[.int .i64 5, .bool b, .int .i64 n, .string s, .slice la l.length lc, .slice ma m.length mc] 25)).alloc (.cells #[.int .i64 5, .bool b2, .int .i64 n2, .string s2, .slice la2 l2.length lc2, .slice ma2 m2.length mc2] 25)) wr) (fun vi _ => m.length - (intOf vi).toNat)
        case atStart => exact ⟨0, by omega, by omega, rfl, fun i _ _ hi => absurd hi (Nat.not_lt_zero _), Below.refl _ _⟩
        case round =>
          obtain ⟨j, hj, hj2, rfl, h0, hbw⟩ := hrel
          have hsz : w.heap.size + 2 ≤ wr.heap.size := by have := hbw.size; simp at this; omega
          have hend : Below w.heap.size w wr := bstep HB.out hbw (by omega)
          have hbw2 := bstep hw hend hw.size
          obtain ⟨q0, q1, _, _⟩ := two_boxes hbw (by omega)
          have b5 : wr.cell? ⟨w.heap.size, 5, none⟩ = some (.slice ma m.length mc) := q0 5
          have d5 : wr.cell? ⟨w.heap.size + 1, 5, none⟩ = some (.slice ma2 m2.length mc2) := q1 5
          clear q0 q1
          by_cases hjb : j < m.length ∧ j < m2.length
          · obtain ⟨hjl, hjy⟩ := hjb
            have b5r := cell_regrown b5
            have d5r := cell_regrown d5
            have CJ0 := CM.out j hjl hjy
            obtain ⟨bl, ol, c0, c1', c2', c3, c4, c4l, c4c, c5, c5l, c5c, rfl, hcl, r0, r1, r2, r3, r4, r5, r6⟩ := openM hbw2 hm RM.out hjl (IM.out j hjl)
            obtain ⟨bl2, ol2, d0, d1, d2, d3, g4, g4l, g4c, g5, g5l, g5c, rfl, hdl, s0, s1, s2, s3, s4, s5, s6⟩ := openM hbw2 hm2 RM2.out hjy (IM2.out j hjy)
            rw [hcl, hdl] at CJ0
            have CJ0 := Lib.hid CJ0
            clear hcl hdl
            have gr0 := cell_regrown r0
            have gr1 := cell_regrown r1
            have gr2 := cell_regrown r2
            have gr3 := cell_regrown r3
            have gr4 := cell_regrown r4
            have gr5 := cell_regrown r5
            have gr6 := cell_regrown r6
            have gs0 := cell_regrown s0
            have gs1 := cell_regrown s1
            have gs2 := cell_regrown s2
            have gs3 := cell_regrown s3
            have gs4 := cell_regrown s4
            have gs5 := cell_regrown s5
            have gs6 := cell_regrown s6
            by_cases hky : m[j].1 = m2[j].1
            · have f7 : (m[j].1.toList == m2[j].1.toList) = true := by rw [hky]; simp
              have PE := Lib.hid (show cmpP m[j] m2[j] = T.cmp m[j].2 m2[j].2 by unfold cmpP; rw [if_neg (by simp [hky])])
              clear hky
              by_cases hz : T.cmp m[j].2 m2[j].2 = 0
              · have HZ2 : (T.cmp m[j].2 m2[j].2 != 0) = false := by rw [hz]; rfl
                have HZ := Lib.hid (PE.out.trans hz)
                clear hz
                go_wp2_with fail
                refine wp_region_quiet_below (by kernel_rfl) (by kernel_rfl) ?_
                repeat (go_big_quiet_step (fail))
                refine wpQuiet_nil ?_
                intro _ hw'
                obtain ⟨⟨dq, osq⟩, hw''⟩ := hw'
                subst hw''
                have hbq := below_regrown wr dq osq
                simp only []
                generalize grow (redrawn wr dq) osq = w6 at hbq ⊢

                have hx2 := bstep hbw2 hbq hbw2.size
                have bb5 := cells_frame hbq b5
                have dd5 := cells_frame hbq d5
                have bb5r := cell_regrown bb5
                have dd5r := cell_regrown dd5
                have zr0 := cell_regrown (cells_frame hbq r0)
                have zr1 := cell_regrown (cells_frame hbq r1)
                have zr2 := cell_regrown (cells_frame hbq r2)
                have zr3 := cell_regrown (cells_frame hbq r3)
                have zr4 := cell_regrown (cells_frame hbq r4)
                have zr5 := cell_regrown (cells_frame hbq r5)
                have zr6 := cell_regrown (cells_frame hbq r6)
                have zs0 := cell_regrown (cells_frame hbq s0)
                have zs1 := cell_regrown (cells_frame hbq s1)
                have zs2 := cell_regrown (cells_frame hbq s2)
                have zs3 := cell_regrown (cells_frame hbq s3)
                have zs4 := cell_regrown (cells_frame hbq s4)
                have zs5 := cell_regrown (cells_frame hbq s5)
                have zs6 := cell_regrown (cells_frame hbq s6)
                have CJ := fun dd os => Calls.regrown_of (CJ0.out (grow (redrawn w6 dd) os) (bstep hx2 (below_regrown w6 dd os) hx2.size))
                go_wp2_with fail
                refine wp_region_quiet_below (by kernel_rfl) (by kernel_rfl) ?_
                repeat (go_big_quiet_step (fail))
                go_big_quiet_step (exact CJ _ _)
                repeat (go_big_quiet_step (fail))
                refine wpQuiet_nil ?_
                intro _ hw'
                obtain ⟨⟨dq2, osq2⟩, hw''⟩ := hw'
                subst hw''
                have hbq2 := below_regrown w6 dq2 osq2
                simp only []
                generalize grow (redrawn w6 dq2) osq2 = w7 at hbq2 ⊢
                go_wp2_with fail
                go_roundw
                case rel => exact ⟨j + 1, by omega, by omega, by go_num, fun i p q hij => by
                  by_cases e : i = j
                  · subst e; exact HZ.out
                  · exact h0.out i p q (by omega), bstep (bstep hbw hbq hsz) hbq2 (by have := hbq.size; omega)⟩
                case measure => simp [intOf]; omega
              · have HZ2 : (T.cmp m[j].2 m2[j].2 != 0) = true := ne_form hz
                have HZ := Lib.hid ((EH.out j hjl hjy h0.out (by rw [PE.out]; exact hz)).trans PE.out)
                clear hz
                go_wp2_with fail
                refine wp_region_quiet_below (by kernel_rfl) (by kernel_rfl) ?_
                repeat (go_big_quiet_step (fail))
                refine wpQuiet_nil ?_
                intro _ hw'
                obtain ⟨⟨dq, osq⟩, hw''⟩ := hw'
                subst hw''
                have hbq := below_regrown wr dq osq
                simp only []
                generalize grow (redrawn wr dq) osq = w6 at hbq ⊢

                have hx2 := bstep hbw2 hbq hbw2.size
                have bb5 := cells_frame hbq b5
                have dd5 := cells_frame hbq d5
                have bb5r := cell_regrown bb5
                have dd5r := cell_regrown dd5
                have zr0 := cell_regrown (cells_frame hbq r0)
                have zr1 := cell_regrown (cells_frame hbq r1)
                have zr2 := cell_regrown (cells_frame hbq r2)
                have zr3 := cell_regrown (cells_frame hbq r3)
                have zr4 := cell_regrown (cells_frame hbq r4)
                have zr5 := cell_regrown (cells_frame hbq r5)
                have zr6 := cell_regrown (cells_frame hbq r6)
                have zs0 := cell_regrown (cells_frame hbq s0)
                have zs1 := cell_regrown (cells_frame hbq s1)
                have zs2 := cell_regrown (cells_frame hbq s2)
                have zs3 := cell_regrown (cells_frame hbq s3)
                have zs4 := cell_regrown (cells_frame hbq s4)
                have zs5 := cell_regrown (cells_frame hbq s5)
                have zs6 := cell_regrown (cells_frame hbq s6)
                have CJ := fun dd os => Calls.regrown_of (CJ0.out (grow (redrawn w6 dd) os) (bstep hx2 (below_regrown w6 dd os) hx2.size))
                go_wp2_with fail
                refine wp_region_quiet_below (by kernel_rfl) (by kernel_rfl) ?_
                repeat (go_big_quiet_step (fail))
                go_big_quiet_step (exact CJ _ _)
                repeat (go_big_quiet_step (fail))
                refine wpQuiet_nil ?_
                intro _ hw'
                obtain ⟨⟨dq2, osq2⟩, hw''⟩ := hw'
                subst hw''
                have hbq2 := below_regrown w6 dq2 osq2
                simp only []
                generalize grow (redrawn w6 dq2) osq2 = w7 at hbq2 ⊢
                go_wp2_with fail
                go_ret
                exact ⟨ret_int (HE.out.trans HZ.out).symm, bstep (bstep hend hbq hend.size) hbq2 (by have := hbq.size; omega)⟩
            · have f7 := str_ne hky
              have HZ := Lib.hid ((EH.out j hjl hjy h0.out (by rw [cmpP_key hky]; exact cmpS_ne hky)).trans ((cmpP_key hky).trans (cmpS_before hky)))
              clear hky CJ0
              go_wp2_with fail
              refine wp_region_quiet_below (by kernel_rfl) (by kernel_rfl) ?_
              repeat (go_big_quiet_step (fail))
              refine wpQuiet_nil ?_
              intro _ hw'
              obtain ⟨⟨dq, osq⟩, hw''⟩ := hw'
              subst hw''
              have hbq := below_regrown wr dq osq
              simp only []
              generalize grow (redrawn wr dq) osq = w6 at hbq ⊢

              have hx2 := bstep hbw2 hbq hbw2.size
              have bb5 := cells_frame hbq b5
              have dd5 := cells_frame hbq d5
              have bb5r := cell_regrown bb5
              have dd5r := cell_regrown dd5
              have zr0 := cell_regrown (cells_frame hbq r0)
              have zr1 := cell_regrown (cells_frame hbq r1)
              have zr2 := cell_regrown (cells_frame hbq r2)
              have zr3 := cell_regrown (cells_frame hbq r3)
              have zr4 := cell_regrown (cells_frame hbq r4)
              have zr5 := cell_regrown (cells_frame hbq r5)
              have zr6 := cell_regrown (cells_frame hbq r6)
              have zs0 := cell_regrown (cells_frame hbq s0)
              have zs1 := cell_regrown (cells_frame hbq s1)
              have zs2 := cell_regrown (cells_frame hbq s2)
              have zs3 := cell_regrown (cells_frame hbq s3)
              have zs4 := cell_regrown (cells_frame hbq s4)
              have zs5 := cell_regrown (cells_frame hbq s5)
              have zs6 := cell_regrown (cells_frame hbq s6)
              have CJ := fun dd os => Calls.regrown_of (below_of_eq (rbefore_any (Op.bytesLess m[j].1.toList m2[j].1.toList) true (grow (redrawn w6 dd) os)))
              go_wp2_with fail
              refine wp_region_quiet_below (by kernel_rfl) (by kernel_rfl) ?_
              repeat (go_big_quiet_step (fail))
              go_big_quiet_step (exact CJ _ _)
              repeat (go_big_quiet_step (fail))
              refine wpQuiet_nil ?_
              intro _ hw'
              obtain ⟨⟨dq2, osq2⟩, hw''⟩ := hw'
              subst hw''
              have hbq2 := below_regrown w6 dq2 osq2
              simp only []
              generalize grow (redrawn w6 dq2) osq2 = w7 at hbq2 ⊢
              go_wp2_with fail
              go_ret
              exact ⟨ret_int (HE.out.trans HZ.out).symm, bstep (bstep hend hbq hend.size) hbq2 (by have := hbq.size; omega)⟩
          · rcases (by omega : m.length < m2.length ∨ m2.length < m.length ∨ m.length = m2.length) with hlt | hlt | hlt
            · obtain rfl : j = m.length := by omega
              have HZ := Lib.hid (HE.out.trans (ES.out hlt h0.out))
              have f8 : decide ((m2.length : Int) < (m.length : Int)) = false := by simp; omega
              clear hjb h0
              go_wp2_with fail
              refine (rbefore_any _ _ _).mono ?_
              rintro e w3 ⟨rfl, rfl⟩
              go_wp2_with fail
              go_ret
              exact ⟨ret_int (by rw [HZ.out]; unfold befV; simp <;> omega), hend⟩
            · obtain rfl : j = m2.length := by omega
              have HZ := Lib.hid (HE.out.trans (EL.out hlt h0.out))
              clear hjb h0
              go_wp2_with fail
              refine (rbefore_any _ _ _).mono ?_
              rintro e w3 ⟨rfl, rfl⟩
              go_wp2_with fail
              go_ret
              exact ⟨ret_int (by rw [HZ.out]; unfold befV; simp <;> omega), hend⟩
            · obtain rfl : j = m.length := by omega
              have HZ := Lib.hid (HE.out.trans (EE.out hlt h0.out))
              have f8 : ¬ (m.length < m2.length) := by omega
              have f9 : ¬ (m2.length < m.length) := by omega
              clear hjb h0
              clear hlt
              go_wp2_with fail
              refine (rbefore_any _ _ _).mono ?_
              rintro e w3 ⟨rfl, rfl⟩
              go_wp2_with fail
              go_ret
              exact ⟨ret_int (by rw [HZ.out]; unfold befV; simp <;> omega), hend⟩
      rw [if_neg h5] at E
      have HE := Lib.hid E
      have f1 : (k == 1) = false := by simp [h1]
      have f2 : (k == 2) = false := by simp [h2]
      have f3 : (k == 3) = false := by simp [h3]
      have f4 : (k == 4) = false := by simp [h4]
      have f5 : (k == 5) = false := by simp [h5]
      clear E h1 h2 h3 h4 h5 CL CM RL RL2 RM RM2 IL IL2 IM IM2
      go_enter Try.func32, Try.ntmps32
      go_wp2_with fail
      go_ret
      exact ⟨ret_int HE.out.symm, HB.out⟩

end Go.Proofs.Ytnfmmgbghbaecaa
