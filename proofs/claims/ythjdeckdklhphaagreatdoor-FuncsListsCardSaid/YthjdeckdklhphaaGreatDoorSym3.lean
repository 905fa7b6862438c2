/-
  The library's symMerge: it merges two runs.
-/
import Derived.Test.YthjdeckdklhphaaGreatDoorSym2
import Derived.Deep.DeepCutAuto
set_option linter.unusedVariables false
set_option linter.unusedSimpArgs false
namespace Go.Proofs.YthjdeckdklhphaaGreatDoor
open Go.RowKit Go.Sort

/-- symMerge, of runs that have fewer than k pairs. -/
def SymK (base g n cap k : Nat) : Prop := ∀ (P X Y S : List E) (pa m pb : Nat) (w : World), X.length + Y.length < k → 0 < X.length → 0 < Y.length → Srt X → Srt Y → (∀ x ∈ X, ∀ y ∈ Y, x.2 < y.2) → OwnQ w base g n cap ((P ++ (X ++ (Y ++ S))).map (·.1)) → P.length = pa → pa + X.length = m → m + Y.length = pb →
  Calls Tryz.prog 165 #[.slice (some ⟨g, 0, none⟩) n cap, .int .i64 pa, .int .i64 m, .int .i64 pb, .func (Fn.func 111) #[] #[]] w (SymIn w base g n cap P X Y S)
/-- The first two parts of what was cut, merged or as they are. -/
theorem parts_one {A B : List E} (hA : Srt A) (hB : Srt B) (h : A = [] ∨ B = []) : Srt (A ++ B) := by
  rcases h with rfl | rfl
  · simpa using hB
  · simpa using hA

set_option maxHeartbeats 8000000 in
set_option maxRecDepth 100000 in
theorem sym_main (base g n cap : Nat) (P X Y S : List E) (pa m pb : Nat) (w : World) (h : OwnQ w base g n cap ((P ++ (X ++ (Y ++ S))).map (·.1))) (hpa : P.length = pa) (hm : pa + X.length = m) (hpb : m + Y.length = pb) (hX1 : 1 < X.length) (hY1 : 1 < Y.length) (hX : Srt X) (hY : Srt Y) (ht : ∀ x ∈ X, ∀ y ∈ Y, x.2 < y.2) (hn : n ≤ 1000000000) (IH : SymK base g n cap (X.length + Y.length)) :
    Calls Tryz.prog 165 #[.slice (some ⟨g, 0, none⟩) n cap, .int .i64 pa, .int .i64 m, .int .i64 pb, .func (Fn.func 111) #[] #[]] w (SymIn w base g n cap P X Y S) := by
  have hlen := h.len
  rw [List.length_map] at hlen
  have hln : pb ≤ n := by
    simp only [List.length_append] at hlen
    omega
  obtain ⟨C, hC⟩ : ∃ C : List E, C = P ++ (X ++ (Y ++ S)) := ⟨_, rfl⟩
  rw [← hC] at h hlen
  have hCl : C.length = n := hlen
  have HO := Lib.hid h
  have HCE := Lib.hid hC
  have CX : Hid (∀ k (hk : k < X.length) (j : Nat) (hj : j = pa + k) (h : j < C.length), C[j] = X[k]) := fun k hk j hj h => by
    have := at_seg P X (Y ++ S) k hk j (by omega) (by rw [← hC]; exact h)
    simp only [← hC] at this
    exact this
  have CY : Hid (∀ k (hk : k < Y.length) (j : Nat) (hj : j = m + k) (h : j < C.length), C[j] = Y[k]) := fun k hk j hj h => by
    have e : C = (P ++ X) ++ (Y ++ S) := by rw [hC]; simp
    have := at_seg (P ++ X) Y S k hk j (by rw [List.length_append]; omega) (by rw [← e]; exact h)
    simp only [← e] at this
    exact this
  have HX := Lib.hid hX
  have HY := Lib.hid hY
  have HT0 := Lib.hid ht
  have HT : Hid (∀ i (hi : i < X.length) k (hk : k < Y.length), X[i].2 < Y[k].2) := fun i hi k hk => ht _ (List.getElem_mem hi) _ (List.getElem_mem hk)
  have HPA := Lib.hid hpa.symm
  have HXL : Hid (X.length = m - pa) := by show _ = _; omega
  have HYL : Hid (Y.length = pb - m) := by show _ = _; omega
  have IHH := Lib.hid IH
  have hp1 : pa + 1 < m := by omega
  have hp2 : m + 1 < pb := by omega
  obtain ⟨md, hmd⟩ : ∃ k, k = (pa + pb) / 2 := ⟨_, rfl⟩
  have zmd : ((pa : Int) + (pb : Int)) / 2 = (md : Int) := by omega
  have hd1 : 2 * md ≤ pa + pb := by omega
  have hd2 : pa + pb ≤ 2 * md + 1 := by omega
  have z0 : ((m : Int) - (pa : Int) == 1) = false := beq_eq_false_iff_ne.2 (by omega)
  have z1 : ((pb : Int) - (m : Int) == 1) = false := beq_eq_false_iff_ne.2 (by omega)
  have HW0 := Lib.hid (World.grownBy.refl w (some g))
  clear hC hX hY ht hpa hpb hlen h hm hX1 hY1 hmd IH
  go_enter Tryz.func165, Tryz.ntmps165
  go_upto_region 27 with fail
  go_upto_if 140 with fail
  go_cut [20, 21] (fun v20 v21 wx => ∃ st r0 : Nat, v20 = .int .i64 st ∧ v21 = .int .i64 r0 ∧ ((md < m ∧ st + pb = md + m ∧ r0 = md) ∨ (m ≤ md ∧ st = pa ∧ r0 = m)) ∧ wx = w)
  case first => as_aux_lemma =>
    by_cases hgt : md < m
    · have f1 : (m : Int) > (md : Int) := by omega
      have zst : (md : Int) + (m : Int) - (pb : Int) = ((md + m - pb : Nat) : Int) := by omega
      go_wp2_with fail
      go_meet
      case rel => exact ⟨md + m - pb, md, by go_num, rfl, .inl ⟨hgt, by omega, rfl⟩, rfl⟩
    · have f1 : ¬ (m : Int) > (md : Int) := by omega
      go_wp2_with fail
      go_meet
      case rel => exact ⟨pa, m, rfl, rfl, .inr ⟨by omega, rfl, rfl⟩, rfl⟩
  case rest => as_aux_lemma =>
    obtain ⟨st, r0, rfl, rfl, hst, hwc⟩ := hcut
    have hwc2 := hwc.symm
    subst hwc2
    clear hwc
    have HST := Lib.hid hst
    have hs1 : pa ≤ st := by omega
    have hs2 : st ≤ r0 := by omega
    have hs3 : r0 ≤ md := by omega
    have hs4 : r0 ≤ m := by omega
    have hs5 : md + m ≤ st + pb := by omega
    clear hst
    go_wp2_with fail
    go_loopw [20, 21] (fun vi vj wr => ∃ (s r : Nat), vi = .int .i64 s ∧ vj = .int .i64 r ∧ st ≤ s ∧ s ≤ r ∧ r ≤ r0 ∧ Hid (BS X Y (md - pa) (st - pa) (r0 - pa) (s - pa) (r - pa)) ∧ Hid (OwnQ wr base g n cap (C.map (·.1))) ∧ Hid (w.grownBy wr (some g))) (fun vi vj _ => (intOf vj).toNat - (intOf vi).toNat)
    case atStart => exact ⟨st, r0, rfl, rfl, Nat.le_refl _, hs2, Nat.le_refl _, BS.start _ _ _ _ _ (by omega), HO, HW0⟩
    case round =>
      obtain ⟨s, r, rfl, rfl, h1, h2, h3, HB, HO, HW⟩ := hrel
      by_cases hij : s < r
      · obtain ⟨c, hc⟩ : ∃ c, c = (s + r) / 2 := ⟨_, rfl⟩
        have zc : ((s : Int) + (r : Int)) / 2 = (c : Int) := by omega
        have hic : s ≤ c := by omega
        have hcj : c < r := by omega
        obtain ⟨q, hq⟩ : ∃ q, q = m + (md - pa - 1 - (c - pa)) := ⟨_, rfl⟩
        have zq : (md : Int) + (m : Int) - 1 - (c : Int) = (q : Int) := by omega
        have hcx : c - pa < X.length := by have := HXL.out; omega
        have hqy : md - pa - 1 - (c - pa) < Y.length := by have := HYL.out; omega
        have hcn : c < n := by omega
        have hqn : q < n := by omega
        have HQ := Lib.hid hq
        clear hc hq
        go_upto_region 35 with fail
        obtain ⟨ka, kb, kc, kd, ke, kel, kec, kf, kfl, kfc, eC1, r0, r1, r2, r3, r4, r5, r6⟩ := HO.out.row (q) (by rw [List.length_map]; omega)
        obtain ⟨ja, jb, jc, jd, je, jel, jec, jf, jfl, jfc, eC0, s0, s1, s2, s3, s4, s5, s6⟩ := HO.out.row (c) (by rw [List.length_map]; omega)
        simp only [List.getElem_map] at eC1 r0 eC0 s0
        have kk0 := cell_regrown r0
        have kk1 := cell_regrown r1
        have kk2 := cell_regrown r2
        have kk3 := cell_regrown r3
        have kk4 := cell_regrown r4
        have kk5 := cell_regrown r5
        have kk6 := cell_regrown r6
        have jj0 := cell_regrown s0
        have jj1 := cell_regrown s1
        have jj2 := cell_regrown s2
        have jj3 := cell_regrown s3
        have jj4 := cell_regrown s4
        have jj5 := cell_regrown s5
        have jj6 := cell_regrown s6
        have cQ : ∀ dd os, Calls Tryz.prog 111 #[.agg #[.string (kE C[q]), .int .i64 ka, .bool kb, .int .i64 kc, .string kd, .slice ke kel kec, .slice kf kfl kfc], .agg #[.string (kE C[c]), .int .i64 ja, .bool jb, .int .i64 jc, .string jd, .slice je jel jec, .slice jf jfl jfc]] (grow (redrawn wr dd) os) fun e w'' => e = .returned (.int .i64 (cmpS (kE C[q]) (kE C[c]))) ∧ ∃ q : Regrown, w'' = grow (redrawn wr q.d) q.os :=
          fun dd os => Calls.regrown_of (map1_any _ _ _ _ _ _ _ _ _ _ _ _ _ _ _ _ _ _ _ _ _ _ _)
        by_cases hlt2 : cmpS (kE C[q]) (kE C[c]) < 0
        · refine wp_region_quiet_below (by kernel_rfl) (by kernel_rfl) ?_
          repeat (go_big_quiet_step (exact cQ _ _))
          refine wpQuiet_nil ?_
          intro _ hw'
          obtain ⟨⟨dq, osq⟩, hw''⟩ := hw'
          subst hw''
          have hbq := below_regrown wr dq osq
          simp only []
          generalize grow (redrawn wr dq) osq = w1 at hbq ⊢
          have HO1 := Lib.hid (HO.out.kept hbq)
          have HW1 := Lib.hid (grown_trans HW.out (grown_of_below hbq (some g)))
          clear kk0 kk1 kk2 kk3 kk4 kk5 kk6 jj0 jj1 jj2 jj3 jj4 jj5 jj6 r0 r1 r2 r3 r4 r5 r6 s0 s1 s2 s3 s4 s5 s6 cQ hbq
          have hlt := (cmp_later (HT.out (c - pa) hcx (md - pa - 1 - (c - pa)) hqy)).1 (by rw [CY.out (md - pa - 1 - (c - pa)) hqy q HQ.out (by omega), CX.out (c - pa) hcx c (by omega) (by omega)] at hlt2; exact hlt2)
          have HB2 := Lib.hid (HB.out.down HX.out HY.out (c := c - pa) (by omega) (by omega) (by omega) hcx hqy hlt)
          clear hlt HB
          go_wp2_with fail
          go_roundw
          case rel => exact ⟨s, c, rfl, by go_num, h1, hic, by omega, HB2, HO1, HW1⟩
          case measure => simp [intOf]; omega

        · refine wp_region_quiet_below (by kernel_rfl) (by kernel_rfl) ?_
          repeat (go_big_quiet_step (exact cQ _ _))
          refine wpQuiet_nil ?_
          intro _ hw'
          obtain ⟨⟨dq, osq⟩, hw''⟩ := hw'
          subst hw''
          have hbq := below_regrown wr dq osq
          simp only []
          generalize grow (redrawn wr dq) osq = w1 at hbq ⊢
          have HO1 := Lib.hid (HO.out.kept hbq)
          have HW1 := Lib.hid (grown_trans HW.out (grown_of_below hbq (some g)))
          clear kk0 kk1 kk2 kk3 kk4 kk5 kk6 jj0 jj1 jj2 jj3 jj4 jj5 jj6 r0 r1 r2 r3 r4 r5 r6 s0 s1 s2 s3 s4 s5 s6 cQ hbq
          have hgt : ltE X[c - pa] Y[md - pa - 1 - (c - pa)] := ltE_total (by have := HT.out (c - pa) hcx (md - pa - 1 - (c - pa)) hqy; omega) fun h4 => hlt2 (by rw [CY.out (md - pa - 1 - (c - pa)) hqy q HQ.out (by omega), CX.out (c - pa) hcx c (by omega) (by omega)]; exact (cmp_later (HT.out (c - pa) hcx (md - pa - 1 - (c - pa)) hqy)).2 h4)
          have HB2 := Lib.hid (HB.out.up HX.out HY.out (c := c - pa) (by omega) (by omega) (by omega) hcx hqy hgt)
          rw [show c - pa + 1 = c + 1 - pa by omega] at HB2
          clear hgt HB
          go_wp2_with fail
          go_roundw
          case rel => exact ⟨c + 1, r, by go_num, rfl, by omega, by omega, h3, HB2, HO1, HW1⟩
          case measure => simp [intOf]; omega

      · obtain rfl : s = r := by omega
        have hdn := HB.out.done HX.out HY.out (by rw [HXL.out, HYL.out]; omega) (by rw [HXL.out, HYL.out]; omega) (by
          rcases HST.out with ⟨h4, h5, h6⟩ | ⟨h4, h5, h6⟩
          · exact .inl ⟨by rw [HXL.out]; omega, by rw [HYL.out]; omega, by rw [h6]⟩
          · exact .inr ⟨by rw [HXL.out]; omega, by omega, by rw [HXL.out, h6]⟩)
        rw [show md - pa - (s - pa) = md - s by omega] at hdn
        obtain ⟨L1, L2, eX, l1, l2⟩ : ∃ L1 L2, L1 ++ L2 = X ∧ L1 = X.take (s - pa) ∧ L2 = X.drop (s - pa) := ⟨_, _, List.take_append_drop _ _, rfl, rfl⟩
        obtain ⟨R1, R2, eY, r1, r2⟩ : ∃ R1 R2, R1 ++ R2 = Y ∧ R1 = Y.take (md - s) ∧ R2 = Y.drop (md - s) := ⟨_, _, List.take_append_drop _ _, rfl, rfl⟩
        rw [← l1, ← l2, ← r1, ← r2] at hdn
        have n1 : L1.length = s - pa := by rw [l1, List.length_take, HXL.out]; omega
        have n2 : L2.length = m - s := by rw [l2, List.length_drop, HXL.out]; omega
        have n3 : R1.length = md - s := by rw [r1, List.length_take, HYL.out]; omega
        have n4 : R2.length = pb - m - (md - s) := by rw [r2, List.length_drop, HYL.out]
        have sX : Srt (L1 ++ L2) := by rw [eX]; exact HX.out
        have sY : Srt (R1 ++ R2) := by rw [eY]; exact HY.out
        have HDN := Lib.hid hdn
        have SX := Lib.hid sX
        have SY := Lib.hid sY
        have N1 := Lib.hid n1
        have N2 := Lib.hid n2
        have N3 := Lib.hid n3
        have N4 := Lib.hid n4
        obtain ⟨en, hen⟩ : ∃ k, k = md + m - s := ⟨_, rfl⟩
        have zen : (md : Int) + (m : Int) - (s : Int) = (en : Int) := by omega
        have he1 : en + s ≤ md + m := by omega
        have he2 : md + m ≤ en + s := by omega
        have he3 : en ≤ pb := by omega
        have he4 : m ≤ en := by omega
        have he5 : md ≤ en := by omega
        have hO0 := HO.out
        rw [HCE.out, ← eX, ← eY] at hO0
        have HO2 : Hid (OwnQ wr base g n cap (((P ++ L1) ++ (L2 ++ (R1 ++ (R2 ++ S)))).map (·.1))) := by
          have e : (P ++ L1) ++ (L2 ++ (R1 ++ (R2 ++ S))) = P ++ ((L1 ++ L2) ++ ((R1 ++ R2) ++ S)) := by simp
          show OwnQ _ _ _ _ _ _
          rw [e]; exact hO0
        have EXY : Hid (L1 ++ L2 = X ∧ R1 ++ R2 = Y) := ⟨eX, eY⟩
        clear hdn eX eY l1 l2 r1 r2 n1 n2 n3 n4 sX sY hen hO0 HO HW0 CX CY HB HST HT
        obtain ⟨ba, hba⟩ : ∃ bb : Bool, bb = (decide (s < m) && decide (m < en)) := ⟨_, rfl⟩
        have Hba := Lib.hid hba
        clear hba
        go_upto_region 39 with fail
        go_cut [185] (fun v185 wx => v185 = .bool ba ∧ wx = wr)
        case first => as_aux_lemma =>
          by_cases g1 : s < m
          · have f1 : decide ((s : Int) < (m : Int)) = true := decide_eq_true (by omega)
            by_cases g2 : m < en
            · have f2 : decide ((m : Int) < (en : Int)) = true := decide_eq_true (by omega)
              have eb : ba = true := by rw [Hba.out, decide_eq_true g1, decide_eq_true g2]; rfl
              have EB := Lib.hid eb
              clear eb
              go_wp2_with fail
              go_meet
              case rel => exact ⟨by rw [EB.out], rfl⟩
            · have f2 : decide ((m : Int) < (en : Int)) = false := decide_eq_false (by omega)
              have eb : ba = false := by rw [Hba.out, decide_eq_true g1, decide_eq_false g2]; rfl
              have EB := Lib.hid eb
              clear eb
              go_wp2_with fail
              go_meet
              case rel => exact ⟨by rw [EB.out], rfl⟩
          · have f1 : decide ((s : Int) < (m : Int)) = false := decide_eq_false (by omega)
            have eb : ba = false := by rw [Hba.out, decide_eq_false g1]; rfl
            have EB := Lib.hid eb
            clear eb
            go_wp2_with fail
            go_meet
            case rel => exact ⟨by rw [EB.out], rfl⟩
        case rest => as_aux_lemma =>
          obtain ⟨rfl, hwc⟩ := hcut
          have hwc2 := hwc.symm
          subst hwc2
          clear hwc
          go_upto_if 185 with fail
          go_cut [191] (fun q191 wx => Hid (OwnQ wx base g n cap (((P ++ L1) ++ (R1 ++ (L2 ++ (R2 ++ S)))).map (·.1))) ∧ Hid (w.grownBy wx (some g)))
          case first => as_aux_lemma =>
            cases ba with
            | true =>
              have hgg := Hba.out
              have g12 : s < m ∧ m < en := by
                cases hc1 : decide (s < m) with
                | false => rw [hc1] at hgg; cases hgg
                | true =>
                  cases hc2 : decide (m < en) with
                  | false => rw [hc1, hc2] at hgg; cases hgg
                  | true => exact ⟨of_decide_eq_true hc1, of_decide_eq_true hc2⟩
              obtain ⟨g1, g2⟩ := g12
              clear hgg
              have HR := Lib.hid (rot_any base g n cap ((P ++ L1).map (·.1)) (L2.map (·.1)) (R1.map (·.1)) ((R2 ++ S).map (·.1)) s m en wr (by rw [← List.map_append, ← List.map_append, ← List.map_append]; exact HO2.out) (by rw [List.length_map, List.length_append, N1.out, ← HPA.out]; omega) (by rw [List.length_map, List.length_append, List.length_map, N1.out, N2.out, ← HPA.out]; omega) (by rw [List.length_map, List.length_append, List.length_map, List.length_map, N1.out, N2.out, N3.out, ← HPA.out]; omega) (by rw [List.length_map, N2.out]; omega) (by rw [List.length_map, N3.out]; omega) hn)
              go_wp2_with fail
              refine HR.out.mono ?_
              rintro e w1 ⟨rfl, hO, hG⟩
              rw [← List.map_append, ← List.map_append, ← List.map_append] at hO
              have HF := Lib.hid hO
              have HG := Lib.hid (grown_trans HW.out hG)
              clear hO hG HR
              go_wp2_with fail
              go_meet
              case rel => exact ⟨HF, HG⟩
            | false =>
              have hno : L2 = [] ∨ R1 = [] := by
                have hgg := Hba.out
                by_cases g1 : s < m
                · by_cases g2 : m < en
                  · rw [decide_eq_true g1, decide_eq_true g2] at hgg; cases hgg
                  · exact .inr (List.eq_nil_of_length_eq_zero (by rw [N3.out]; omega))
                · exact .inl (List.eq_nil_of_length_eq_zero (by rw [N2.out]; omega))
              have HF : Hid (OwnQ wr base g n cap (((P ++ L1) ++ (R1 ++ (L2 ++ (R2 ++ S)))).map (·.1))) := by
                have h5 := HO2.out
                rcases hno with hz | hz
                · rw [hz] at h5 ⊢
                  exact h5
                · rw [hz] at h5 ⊢
                  exact h5
              clear hno
              go_wp2_with fail
              go_meet
              case rel => exact ⟨HF, HW⟩
          case rest => as_aux_lemma =>
            clear HO2 HW
            obtain ⟨HO2, HW⟩ := hcut
            obtain ⟨wd, rfl⟩ : ∃ u : World, u = wc := ⟨_, rfl⟩
            have HO3 : Hid (OwnQ wd base g n cap ((P ++ (L1 ++ (R1 ++ (L2 ++ (R2 ++ S))))).map (·.1))) := by
              have e : P ++ (L1 ++ (R1 ++ (L2 ++ (R2 ++ S)))) = (P ++ L1) ++ (R1 ++ (L2 ++ (R2 ++ S))) := by simp
              show OwnQ _ _ _ _ _ _
              rw [e]; exact HO2.out
            clear HO2
            obtain ⟨bb, hbb⟩ : ∃ bb : Bool, bb = (decide (pa < s) && decide (s < md)) := ⟨_, rfl⟩
            have Hbb := Lib.hid hbb
            clear hbb
            go_upto_region 41 with fail
            go_cut [199] (fun v199 wx => v199 = .bool bb ∧ wx = wd)
            case first => as_aux_lemma =>
              by_cases g1 : pa < s
              · have f1 : decide ((pa : Int) < (s : Int)) = true := decide_eq_true (by omega)
                by_cases g2 : s < md
                · have f2 : decide ((s : Int) < (md : Int)) = true := decide_eq_true (by omega)
                  have eb : bb = true := by rw [Hbb.out, decide_eq_true g1, decide_eq_true g2]; rfl
                  have EB := Lib.hid eb
                  clear eb
                  go_wp2_with fail
                  go_meet
                  case rel => exact ⟨by rw [EB.out], rfl⟩
                · have f2 : decide ((s : Int) < (md : Int)) = false := decide_eq_false (by omega)
                  have eb : bb = false := by rw [Hbb.out, decide_eq_true g1, decide_eq_false g2]; rfl
                  have EB := Lib.hid eb
                  clear eb
                  go_wp2_with fail
                  go_meet
                  case rel => exact ⟨by rw [EB.out], rfl⟩
              · have f1 : decide ((pa : Int) < (s : Int)) = false := decide_eq_false (by omega)
                have eb : bb = false := by rw [Hbb.out, decide_eq_false g1]; rfl
                have EB := Lib.hid eb
                clear eb
                go_wp2_with fail
                go_meet
                case rel => exact ⟨by rw [EB.out], rfl⟩
            case rest => as_aux_lemma =>
              obtain ⟨rfl, hwc⟩ := hcut
              have hwc2 := hwc.symm
              subst hwc2
              clear hwc
              go_upto_if 199 with fail
              go_cut [205] (fun q205 wx => ∃ Z1, Srt Z1 ∧ Z1.Perm (L1 ++ R1) ∧ OwnQ wx base g n cap ((P ++ (Z1 ++ (L2 ++ (R2 ++ S)))).map (·.1)) ∧ Hid (w.grownBy wx (some g)))
              case first => as_aux_lemma =>
                cases bb with
                | true =>
                  have hgg := Hbb.out
                  have g12 : pa < s ∧ s < md := by
                    cases hc1 : decide (pa < s) with
                    | false => rw [hc1] at hgg; cases hgg
                    | true =>
                      cases hc2 : decide (s < md) with
                      | false => rw [hc1, hc2] at hgg; cases hgg
                      | true => exact ⟨of_decide_eq_true hc1, of_decide_eq_true hc2⟩
                  obtain ⟨g1, g2⟩ := g12
                  clear hgg
                  have HR := Lib.hid (IHH.out P L1 R1 (L2 ++ (R2 ++ S)) pa s md wd (by have := EXY.out; rw [← this.1, ← this.2, List.length_append, List.length_append, N1.out, N2.out, N3.out, N4.out]; omega) (by rw [N1.out]; omega) (by rw [N3.out]; omega) SX.out.left SY.out.left (fun x hx y hy => HT0.out x (by rw [← EXY.out.1]; simp [hx]) y (by rw [← EXY.out.2]; simp [hy])) HO3.out HPA.out.symm (by rw [N1.out]; omega) (by rw [N3.out]; omega))
                  go_wp2_with fail
                  refine HR.out.mono ?_
                  rintro e w1 ⟨rfl, ⟨Z1, hZ, hZp, hO⟩, hG⟩
                  have HF : Hid (∃ Z1, Srt Z1 ∧ Z1.Perm (L1 ++ R1) ∧ OwnQ w1 base g n cap ((P ++ (Z1 ++ (L2 ++ (R2 ++ S)))).map (·.1)) ∧ Hid (w.grownBy w1 (some g))) := ⟨Z1, hZ, hZp, hO, grown_trans HW.out hG⟩
                  clear hO hG HR hZ hZp
                  go_wp2_with fail
                  go_meet
                  case rel => exact HF.out
                | false =>
                  have hno : L1 = [] ∨ R1 = [] := by
                    have hgg := Hbb.out
                    by_cases g1 : pa < s
                    · by_cases g2 : s < md
                      · rw [decide_eq_true g1, decide_eq_true g2] at hgg; cases hgg
                      · exact .inr (List.eq_nil_of_length_eq_zero (by rw [N3.out]; omega))
                    · exact .inl (List.eq_nil_of_length_eq_zero (by rw [N1.out]; omega))
                  have HF : Hid (∃ Z1, Srt Z1 ∧ Z1.Perm (L1 ++ R1) ∧ OwnQ wd base g n cap ((P ++ (Z1 ++ (L2 ++ (R2 ++ S)))).map (·.1)) ∧ Hid (w.grownBy wd (some g))) := ⟨L1 ++ R1, parts_one SX.out.left SY.out.left hno, List.Perm.refl _, by rw [List.append_assoc]; exact HO3.out, HW⟩
                  clear hno
                  go_wp2_with fail
                  go_meet
                  case rel => exact HF.out
              case rest => as_aux_lemma =>
                clear HO3 HW
                obtain ⟨Z1, hZ1, hZp1, hO4, HW⟩ := hcut
                obtain ⟨we, rfl⟩ : ∃ u : World, u = wc := ⟨_, rfl⟩
                have nz : Z1.length = md - pa := by rw [hZp1.length_eq, List.length_append, N1.out, N3.out]; omega
                have HO4 : Hid (OwnQ we base g n cap (((P ++ Z1) ++ (L2 ++ (R2 ++ S))).map (·.1))) := by
                  have e : (P ++ Z1) ++ (L2 ++ (R2 ++ S)) = P ++ (Z1 ++ (L2 ++ (R2 ++ S))) := by simp
                  show OwnQ _ _ _ _ _ _
                  rw [e]; exact hO4
                have NZ := Lib.hid nz
                have HTP : Hid (∀ Z2, Srt Z2 → Z2.Perm (L2 ++ R2) → Srt (Z1 ++ Z2) ∧ (Z1 ++ Z2).Perm (X ++ Y)) := fun Z2 s2 p2 => by
                  have := two_parts HDN.out.1 HDN.out.2 SX.out SY.out hZp1 hZ1 p2 s2
                  rw [EXY.out.1, EXY.out.2] at this
                  exact this
                clear hO4 nz hZ1 hZp1
                obtain ⟨bc, hbc⟩ : ∃ bb : Bool, bb = (decide (md < en) && decide (en < pb)) := ⟨_, rfl⟩
                have Hbc := Lib.hid hbc
                clear hbc
                go_upto_region 43 with fail
                go_cut [213] (fun v213 wx => v213 = .bool bc ∧ wx = we)
                case first => as_aux_lemma =>
                  by_cases g1 : md < en
                  · have f1 : decide ((md : Int) < (en : Int)) = true := decide_eq_true (by omega)
                    by_cases g2 : en < pb
                    · have f2 : decide ((en : Int) < (pb : Int)) = true := decide_eq_true (by omega)
                      have eb : bc = true := by rw [Hbc.out, decide_eq_true g1, decide_eq_true g2]; rfl
                      have EB := Lib.hid eb
                      clear eb
                      go_wp2_with fail
                      go_meet
                      case rel => exact ⟨by rw [EB.out], rfl⟩
                    · have f2 : decide ((en : Int) < (pb : Int)) = false := decide_eq_false (by omega)
                      have eb : bc = false := by rw [Hbc.out, decide_eq_true g1, decide_eq_false g2]; rfl
                      have EB := Lib.hid eb
                      clear eb
                      go_wp2_with fail
                      go_meet
                      case rel => exact ⟨by rw [EB.out], rfl⟩
                  · have f1 : decide ((md : Int) < (en : Int)) = false := decide_eq_false (by omega)
                    have eb : bc = false := by rw [Hbc.out, decide_eq_false g1]; rfl
                    have EB := Lib.hid eb
                    clear eb
                    go_wp2_with fail
                    go_meet
                    case rel => exact ⟨by rw [EB.out], rfl⟩
                case rest => as_aux_lemma =>
                  obtain ⟨rfl, hwc⟩ := hcut
                  have hwc2 := hwc.symm
                  subst hwc2
                  clear hwc
                  cases bc with
                  | true =>
                    have hgg := Hbc.out
                    have g12 : md < en ∧ en < pb := by
                      cases hc1 : decide (md < en) with
                      | false => rw [hc1] at hgg; cases hgg
                      | true =>
                        cases hc2 : decide (en < pb) with
                        | false => rw [hc1, hc2] at hgg; cases hgg
                        | true => exact ⟨of_decide_eq_true hc1, of_decide_eq_true hc2⟩
                    obtain ⟨g1, g2⟩ := g12
                    clear hgg
                    have HR := Lib.hid (IHH.out (P ++ Z1) L2 R2 S md en pb we (by have := EXY.out; rw [← this.1, ← this.2, List.length_append, List.length_append, N1.out, N2.out, N3.out, N4.out]; omega) (by rw [N2.out]; omega) (by rw [N4.out]; omega) SX.out.right SY.out.right (fun x hx y hy => HT0.out x (by rw [← EXY.out.1]; simp [hx]) y (by rw [← EXY.out.2]; simp [hy])) HO4.out (by rw [List.length_append, NZ.out, ← HPA.out]; omega) (by rw [N2.out]; omega) (by rw [N4.out]; omega))
                    go_wp2_with fail
                    refine HR.out.mono ?_
                    rintro e w1 ⟨rfl, ⟨Z2, hZ, hZp, hO⟩, hG⟩
                    have h5 := HTP.out Z2 hZ hZp
                    have HF : Hid (∃ Z, Srt Z ∧ Z.Perm (X ++ Y) ∧ OwnQ w1 base g n cap ((P ++ (Z ++ S)).map (·.1))) := ⟨Z1 ++ Z2, h5.1, h5.2, by
                      have e : P ++ ((Z1 ++ Z2) ++ S) = (P ++ Z1) ++ (Z2 ++ S) := by simp
                      rw [e]; exact hO⟩
                    have HG := Lib.hid (grown_trans HW.out hG)
                    clear hO hG HR hZ hZp h5
                    go_wp2_with fail
                    go_end0
                    exact ⟨rfl, HF.out, HG.out⟩
                  | false =>
                    have hno : L2 = [] ∨ R2 = [] := by
                      have hgg := Hbc.out
                      by_cases g1 : md < en
                      · by_cases g2 : en < pb
                        · rw [decide_eq_true g1, decide_eq_true g2] at hgg; cases hgg
                        · exact .inr (List.eq_nil_of_length_eq_zero (by rw [N4.out]; omega))
                      · exact .inl (List.eq_nil_of_length_eq_zero (by rw [N2.out]; omega))
                    have h5 := HTP.out (L2 ++ R2) (parts_one SX.out.right SY.out.right hno) (List.Perm.refl _)
                    have HF : Hid (∃ Z, Srt Z ∧ Z.Perm (X ++ Y) ∧ OwnQ we base g n cap ((P ++ (Z ++ S)).map (·.1))) := ⟨_, h5.1, h5.2, by
                      have e : P ++ ((Z1 ++ (L2 ++ R2)) ++ S) = (P ++ Z1) ++ (L2 ++ (R2 ++ S)) := by simp
                      rw [e]; exact HO4.out⟩
                    clear h5 hno
                    go_wp2_with fail
                    go_end0
                    exact ⟨rfl, HF.out, HW.out⟩

theorem symMerge_any (base g n cap : Nat) (hn : n ≤ 1000000000) : ∀ k, SymK base g n cap k := by
  intro k
  induction k with
  | zero => exact fun P X Y S pa m pb w h => absurd h (by omega)
  | succ k ih =>
    intro P X Y S pa m pb w hk hX0 hY0 hX hY ht h hpa hm hpb
    by_cases hx : X.length = 1
    · obtain ⟨x, rfl⟩ := List.length_eq_one_iff.1 hx
      exact sym_one base g n cap P x Y S pa m pb w h hpa (by simpa using hm) hpb hY (fun y hy => ht x (by simp) y hy) hn
    · by_cases hy : Y.length = 1
      · obtain ⟨y, rfl⟩ := List.length_eq_one_iff.1 hy
        exact sym_two base g n cap P y X S pa m pb w h hpa hm (by simpa using hpb) hx hX (fun x hx => ht x hx y (by simp)) hn
      · exact sym_main base g n cap P X Y S pa m pb w h hpa hm hpb (by omega) (by omega) hX hY ht hn fun P X' Y' S pa m pb w h1 => ih P X' Y' S pa m pb w (by omega)

end Go.Proofs.YthjdeckdklhphaaGreatDoor
