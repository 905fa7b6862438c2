/-
  The library's symMerge, where the second run has one pair.
-/
import Derived.Test.YthjdeckdklhphaaGreatDoorSym1
set_option linter.unusedVariables false
set_option linter.unusedSimpArgs false
namespace Go.Proofs.YthjdeckdklhphaaGreatDoor
open Go.RowKit Go.Sort

set_option maxHeartbeats 8000000 in
set_option maxRecDepth 100000 in
theorem sym_two (base g n cap : Nat) (P : List E) (y : E) (X S : List E) (pa m pb : Nat) (w : World) (h : OwnQ w base g n cap ((P ++ (X ++ ([y] ++ S))).map (·.1))) (hpa : P.length = pa) (hm : pa + X.length = m) (hpb : m + 1 = pb) (hX1 : X.length ≠ 1) (hX : Srt X) (ht : ∀ x ∈ X, x.2 < y.2) (hn : n ≤ 1000000000) :
    Calls Tryz.prog 165 #[.slice (some ⟨g, 0, none⟩) n cap, .int .i64 pa, .int .i64 m, .int .i64 pb, .func (Fn.func 111) #[] #[]] w (SymIn w base g n cap P X [y] S) := by
  have hlen := h.len
  rw [List.length_map] at hlen
  have hln : pb ≤ n := by
    simp only [List.length_append, List.length_singleton] at hlen
    omega
  obtain ⟨C, hC⟩ : ∃ C : List E, C = P ++ (X ++ ([y] ++ S)) := ⟨_, rfl⟩
  rw [← hC] at h hlen
  have hCl : C.length = n := hlen
  have HO := Lib.hid h
  have CY : Hid (∀ h : m < C.length, C[m] = y) := fun h => by
    have e : C = (P ++ X) ++ ([y] ++ S) := by rw [hC]; simp
    have := at_seg (P ++ X) [y] S 0 (by simp) m (by rw [List.length_append]; omega) (by rw [← e]; exact h)
    simp only [← e] at this
    exact this
  have CX : Hid (∀ k (hk : k < X.length) (j : Nat) (hj : j = pa + k) (h : j < C.length), C[j] = X[k]) := fun k hk j hj h => by
    have := at_seg P X ([y] ++ S) k hk j (by omega) (by rw [← hC]; exact h)
    simp only [← hC] at this
    exact this
  have CU : Hid (C = upF P y X S X.length) := by
    show _ = _
    rw [hC, upF, List.take_of_length_le (Nat.le_refl _), List.drop_of_length_le (Nat.le_refl _)]; rfl
  have HX := Lib.hid hX
  have HT : Hid (∀ k (hk : k < X.length), X[k].2 < y.2) := fun k hk => ht _ (List.getElem_mem hk)
  have HPA := Lib.hid hpa.symm
  obtain ⟨xl, hxl⟩ : ∃ k, k = X.length := ⟨_, rfl⟩
  have HXL := Lib.hid hxl
  rw [← hxl] at CU
  have hpm : pa ≤ m := by omega
  have hmx1 : m ≤ pa + xl := by omega
  have hmx2 : pa + xl ≤ m := by omega
  have hmp : m < pb := by omega
  have z0 : ((m : Int) - (pa : Int) == 1) = false := beq_eq_false_iff_ne.2 (by omega)
  have z1 : ((pb : Int) - (m : Int) == 1) = true := by rw [show (pb : Int) - (m : Int) = 1 by omega]; rfl
  have HW0 := Lib.hid (World.grownBy.refl w (some g))
  clear hC hX ht hpa hpb hlen h hm hX1 hxl
  go_enter Tryz.func165, Tryz.ntmps165
  go_wp2_with fail
  go_loopw [14, 15] (fun vi vj wr => ∃ (i j : Nat), vi = .int .i64 i ∧ vj = .int .i64 j ∧ pa ≤ i ∧ i ≤ j ∧ j ≤ m ∧ Hid (∀ k (hk : k < X.length), pa + k < i → ltE X[k] y) ∧ Hid (∀ k (hk : k < X.length), j ≤ pa + k → ltE y X[k]) ∧ Hid (OwnQ wr base g n cap (C.map (·.1))) ∧ Hid (w.grownBy wr (some g))) (fun vi vj _ => (intOf vj).toNat - (intOf vi).toNat)
  case atStart => exact ⟨pa, m, rfl, rfl, Nat.le_refl _, hpm, Nat.le_refl _, fun k hk h => absurd h (by omega), fun k hk h => absurd h (by have := HXL.out; omega), HO, HW0⟩
  case round =>
    obtain ⟨i, j, rfl, rfl, h1, h2, h3, HL, HG, HO, HW⟩ := hrel
    by_cases hij : i < j
    · obtain ⟨c, hc⟩ : ∃ c, c = (i + j) / 2 := ⟨_, rfl⟩
      have zc : ((i : Int) + (j : Int)) / 2 = (c : Int) := by omega
      have hic : i ≤ c := by omega
      have hcj : c < j := by omega
      have hcn : c < n := by omega
      have hmn : m < n := by omega
      have hcx : c - pa < X.length := by have := HXL.out; omega
      clear hc
      go_upto_region 17 with fail
      obtain ⟨ka, kb, kc, kd, ke, kel, kec, kf, kfl, kfc, eC1, r0, r1, r2, r3, r4, r5, r6⟩ := HO.out.row (m) (by rw [List.length_map]; omega)
      obtain ⟨ja, jb, jc, jd, je, jel, jec, jf, jfl, jfc, eC0, s0, s1, s2, s3, s4, s5, s6⟩ := HO.out.row (c) (by rw [List.length_map]; omega)
      simp only [List.getElem_map] at eC1 r0 eC0 s0
      have kk0 := cell_regrown r0
      have kk1 := cell_regrown r1
      have kk2 := cell_regrown r2
      have kk3 := cell_regrown r3
      have kk4 := cell_regrown r4
      have kk5 := cell_regrown r5
      have kk6 := cell_regrown r6
      have jj0 := cell_regrown s0
      have jj1 := cell_regrown s1
      have jj2 := cell_regrown s2
      have jj3 := cell_regrown s3
      have jj4 := cell_regrown s4
      have jj5 := cell_regrown s5
      have jj6 := cell_regrown s6
      have cQ : ∀ dd os, Calls Tryz.prog 111 #[.agg #[.string (kE C[m]), .int .i64 ka, .bool kb, .int .i64 kc, .string kd, .slice ke kel kec, .slice kf kfl kfc], .agg #[.string (kE C[c]), .int .i64 ja, .bool jb, .int .i64 jc, .string jd, .slice je jel jec, .slice jf jfl jfc]] (grow (redrawn wr dd) os) fun e w'' => e = .returned (.int .i64 (cmpS (kE C[m]) (kE C[c]))) ∧ ∃ q : Regrown, w'' = grow (redrawn wr q.d) q.os :=
        fun dd os => Calls.regrown_of (map1_any _ _ _ _ _ _ _ _ _ _ _ _ _ _ _ _ _ _ _ _ _ _ _)
      by_cases hlt2 : cmpS (kE C[m]) (kE C[c]) < 0
      · refine wp_region_quiet_below (by kernel_rfl) (by kernel_rfl) ?_
        repeat (go_big_quiet_step (exact cQ _ _))
        refine wpQuiet_nil ?_
        intro _ hw'
        obtain ⟨⟨dq, osq⟩, hw''⟩ := hw'
        subst hw''
        have hbq := below_regrown wr dq osq
        simp only []
        generalize grow (redrawn wr dq) osq = w1 at hbq ⊢
        have HO1 := Lib.hid (HO.out.kept hbq)
        have HW1 := Lib.hid (grown_trans HW.out (grown_of_below hbq (some g)))
        clear kk0 kk1 kk2 kk3 kk4 kk5 kk6 jj0 jj1 jj2 jj3 jj4 jj5 jj6 r0 r1 r2 r3 r4 r5 r6 s0 s1 s2 s3 s4 s5 s6 cQ hbq
        have hlt := (cmp_later (HT.out (c - pa) hcx)).1 (by rw [CY.out (by omega), CX.out (c - pa) hcx c (by omega) (by omega)] at hlt2; exact hlt2)
        have HG2 : Hid (∀ k (hk : k < X.length), c ≤ pa + k → ltE y X[k]) := fun k hk hkc => by
          rcases Nat.lt_or_ge (c - pa) k with h4 | h4
          · exact ltE_trans hlt (HX.out.at hcx hk h4)
          · obtain rfl : k = c - pa := by omega
            exact hlt
        clear hlt HG
        go_wp2_with fail
        go_roundw
        case rel => exact ⟨i, c, rfl, by go_num, h1, hic, by omega, HL, HG2, HO1, HW1⟩
        case measure => simp [intOf]; omega

      · refine wp_region_quiet_below (by kernel_rfl) (by kernel_rfl) ?_
        repeat (go_big_quiet_step (exact cQ _ _))
        refine wpQuiet_nil ?_
        intro _ hw'
        obtain ⟨⟨dq, osq⟩, hw''⟩ := hw'
        subst hw''
        have hbq := below_regrown wr dq osq
        simp only []
        generalize grow (redrawn wr dq) osq = w1 at hbq ⊢
        have HO1 := Lib.hid (HO.out.kept hbq)
        have HW1 := Lib.hid (grown_trans HW.out (grown_of_below hbq (some g)))
        clear kk0 kk1 kk2 kk3 kk4 kk5 kk6 jj0 jj1 jj2 jj3 jj4 jj5 jj6 r0 r1 r2 r3 r4 r5 r6 s0 s1 s2 s3 s4 s5 s6 cQ hbq
        have hgt : ltE X[c - pa] y := ltE_total (by have := HT.out (c - pa) hcx; omega) fun h4 => hlt2 (by rw [CY.out (by omega), CX.out (c - pa) hcx c (by omega) (by omega)]; exact (cmp_later (HT.out (c - pa) hcx)).2 h4)
        have HL2 : Hid (∀ k (hk : k < X.length), pa + k < c + 1 → ltE X[k] y) := fun k hk hkc => by
          rcases Nat.lt_or_ge k (c - pa) with h4 | h4
          · exact ltE_trans (HX.out.at hk hcx h4) hgt
          · obtain rfl : k = c - pa := by omega
            exact hgt
        clear hgt HL
        go_wp2_with fail
        go_roundw
        case rel => exact ⟨c + 1, j, by go_num, rfl, by omega, by omega, h3, HL2, HG, HO1, HW1⟩
        case measure => simp [intOf]; omega

    · obtain rfl : i = j := by omega
      have hX2 := one_right HX.out (i := i - pa) (fun k hk hki => HL.out k hk (by omega)) (fun k hk hki => HG.out k hk (by omega))
      have HX2 := Lib.hid hX2
      obtain ⟨q, hq⟩ : ∃ q, q = i - pa := ⟨_, rfl⟩
      have hiq1 : i ≤ pa + q := by omega
      have hiq2 : pa + q ≤ i := by omega
      rw [← hq] at HX2
      have hqx : q ≤ xl := by omega
      clear hX2 HL HG hq
      rw [CU.out] at HO
      go_wp2_with fail
      clear HW0
      go_loopw [17] (fun vi wr => ∃ (k : Nat), vi = .int .i64 ((pa + k : Nat) : Int) ∧ q ≤ k ∧ k ≤ xl ∧ Hid (OwnQ wr base g n cap ((upF P y X S k).map (·.1))) ∧ Hid (w.grownBy wr (some g))) (fun vi _ => (intOf vi).toNat)
      case atStart => exact ⟨xl, by go_num, hqx, Nat.le_refl _, HO, HW⟩
      case round =>
        clear HO HW
        obtain ⟨k, rfl, hqk, hkx, HO, HW⟩ := hrel
        by_cases hk : q < k
        · obtain ⟨k0, rfl⟩ : ∃ k0, k = k0 + 1 := ⟨k - 1, by omega⟩
          have hCU : (upF P y X S (k0 + 1)).length = n := by have := HO.out.len; rwa [List.length_map] at this
          have zk : ((pa + (k0 + 1) : Nat) : Int) - 1 = ((pa + k0 : Nat) : Int) := by omega
          have f1 : decide ((i : Int) < ((pa + (k0 + 1) : Nat) : Int)) = true := decide_eq_true (by omega)
          obtain ⟨ka, kb, kc, kd, ke, kel, kec, kf, kfl, kfc, eC1, r0, r1, r2, r3, r4, r5, r6⟩ := HO.out.row (pa + (k0 + 1)) (by rw [List.length_map]; omega)
          obtain ⟨ja, jb, jc, jd, je, jel, jec, jf, jfl, jfc, eC0, s0, s1, s2, s3, s4, s5, s6⟩ := HO.out.row (pa + k0) (by rw [List.length_map]; omega)
          simp only [List.getElem_map] at eC1 r0 eC0 s0
          have hml : ((upF P y X S (k0 + 1)).map (·.1)).length = n := by rw [List.length_map]; omega
          have fz : ∀ j, wr.frozen? ⟨g, j, none⟩ = false := fun j => HO.out.own.frozenAt j
          go_upto_region 23 with fail
          go_region
          obtain ⟨hSw, hGw⟩ := HO.out.swapG (pa + (k0 + 1)) (pa + k0) (by rw [List.length_map]; omega) (by rw [List.length_map]; omega)
          rw [map_swapG (upF P y X S (k0 + 1)) (pa + (k0 + 1)) (pa + k0) (by omega) (by omega) (by rw [List.length_map]; omega) (by rw [List.length_map]; omega)] at hSw
          have er1 : (qrow ((upF P y X S (k0 + 1)).map (·.1))[pa + k0]).toList = [.string (kE (upF P y X S (k0 + 1))[pa + k0]), .int .i64 ja, .bool jb, .int .i64 jc, .string jd, .slice je jel jec, .slice jf jfl jfc] := by simp [qrow, eC0, kE]
          have er0 : (qrow ((upF P y X S (k0 + 1)).map (·.1))[pa + (k0 + 1)]).toList = [.string (kE (upF P y X S (k0 + 1))[pa + (k0 + 1)]), .int .i64 ka, .bool kb, .int .i64 kc, .string kd, .slice ke kel kec, .slice kf kfl kfc] := by simp [qrow, eC1, kE]
          rw [er0, er1] at hSw hGw
          refine (?_ : Exit.inBlock 7 _ _ _ (setRow (setRow wr g ((pa + (k0 + 1)) * 7) [.string (kE (upF P y X S (k0 + 1))[pa + k0]), .int .i64 ja, .bool jb, .int .i64 jc, .string jd, .slice je jel jec, .slice jf jfl jfc]) g ((pa + k0) * 7) [.string (kE (upF P y X S (k0 + 1))[pa + (k0 + 1)]), .int .i64 ka, .bool kb, .int .i64 kc, .string kd, .slice ke kel kec, .slice kf kfl kfc]).drew)
          generalize (setRow (setRow wr g ((pa + (k0 + 1)) * 7) [.string (kE (upF P y X S (k0 + 1))[pa + k0]), .int .i64 ja, .bool jb, .int .i64 jc, .string jd, .slice je jel jec, .slice jf jfl jfc]) g ((pa + k0) * 7) [.string (kE (upF P y X S (k0 + 1))[pa + (k0 + 1)]), .int .i64 ka, .bool kb, .int .i64 kc, .string kd, .slice ke kel kec, .slice kf kfl kfc]).drew = w2 at hSw hGw ⊢
          clear r0 r1 r2 r3 r4 r5 r6 s0 s1 s2 s3 s4 s5 s6 fz er0 er1 eC0 eC1
          have e5 : ((upF P y X S (k0 + 1)).set (pa + (k0 + 1)) (upF P y X S (k0 + 1))[pa + k0]).set (pa + k0) (upF P y X S (k0 + 1))[pa + (k0 + 1)] = upF P y X S k0 := upF_back P y X S k0 (by have := HXL.out; omega) (pa + k0) (by rw [HPA.out]) (by omega) (by omega)
          rw [e5] at hSw
          have HSW := Lib.hid hSw
          have HGW := Lib.hid (grown_trans HW.out hGw)
          clear hSw hGw HO HW
          go_wp2_with fail
          go_roundw
          case rel => exact ⟨k0, by go_num, by omega, by omega, HSW, HGW⟩
          case measure => simp [intOf]; omega
        · obtain rfl : k = q := by omega
          have f1 : decide ((i : Int) < ((pa + k : Nat) : Int)) = false := decide_eq_false (by omega)
          have HF : Hid (∃ Z, Srt Z ∧ Z.Perm (X ++ [y]) ∧ OwnQ wr base g n cap ((P ++ (Z ++ S)).map (·.1))) := ⟨_, HX2.out.1, HX2.out.2, by
            have h4 := HO.out
            unfold upF at h4
            simpa using h4⟩
          go_wp2_with fail
          go_end0
          exact ⟨rfl, HF.out, HW.out⟩

end Go.Proofs.YthjdeckdklhphaaGreatDoor
