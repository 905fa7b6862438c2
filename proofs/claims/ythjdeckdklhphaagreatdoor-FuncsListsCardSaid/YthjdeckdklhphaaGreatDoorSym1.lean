/-
  The library's symMerge, where the first run has one pair.
-/
import Derived.Test.YthjdeckdklhphaaGreatDoorSwapRM
import Derived.Test.YthjdeckdklhphaaGreatDoorInsR
set_option linter.unusedVariables false
set_option linter.unusedSimpArgs false
namespace Go.Proofs.YthjdeckdklhphaaGreatDoor
open Go.RowKit Go.Sort

/-- What symMerge hands back. -/
def SymIn (w : World) (base g n cap : Nat) (P X Y S : List E) (e : Ending) (w' : World) : Prop := e = .returned (.tuple #[]) ∧ (∃ Z, Srt Z ∧ Z.Perm (X ++ Y) ∧ OwnQ w' base g n cap ((P ++ (Z ++ S)).map (·.1))) ∧ w.grownBy w' (some g)
theorem map_swapG (C : List E) (p q : Nat) (hp : p < C.length) (hq : q < C.length) (h1 : p < (C.map (·.1)).length) (h2 : q < (C.map (·.1)).length) : ((C.map (·.1)).set p (C.map (·.1))[q]).set q (C.map (·.1))[p] = ((C.set p C[q]).set q C[p]).map (·.1) := by
  rw [List.map_set, List.map_set, List.getElem_map, List.getElem_map]
theorem at_seg {α : Type} (A B R : List α) (k : Nat) (hk : k < B.length) (j : Nat) (hj : j = A.length + k) (h : j < (A ++ (B ++ R)).length) : (A ++ (B ++ R))[j] = B[k] := by
  subst hj
  rw [List.getElem_append_right (by omega)]
  have e : A.length + k - A.length = k := by omega
  simp only [e]
  rw [List.getElem_append_left hk]
/-- x on its way up through Y. -/
def upF {α : Type} (P : List α) (x : α) (Y S : List α) (k : Nat) : List α := P ++ (Y.take k ++ (x :: (Y.drop k ++ S)))
theorem upF_len {α : Type} (P : List α) (x : α) (Y S : List α) (k : Nat) : (upF P x Y S k).length = P.length + 1 + Y.length + S.length := by
  unfold upF
  simp only [List.length_append, List.length_cons, List.length_take, List.length_drop]
  omega
theorem upF_at {α : Type} (P : List α) (x : α) (Y S : List α) (k : Nat) (hk : k < Y.length) (p : Nat) (hp : p = P.length + k) : upF P x Y S k = (P ++ Y.take k) ++ (x :: (Y[k] :: (Y.drop (k + 1) ++ S))) ∧ (P ++ Y.take k).length = p := by
  constructor
  · unfold upF
    rw [List.drop_eq_getElem_cons hk]
    simp only [List.append_assoc, List.cons_append]
  · rw [List.length_append, List.length_take]; omega
theorem swap1 {α : Type} (A R : List α) (a b : α) (p : Nat) (hp : A.length = p) (h1 : p < (A ++ (a :: (b :: R))).length) (h2 : p + 1 < (A ++ (a :: (b :: R))).length) :
    ((A ++ (a :: (b :: R))).set p (A ++ (a :: (b :: R)))[p + 1]).set (p + 1) (A ++ (a :: (b :: R)))[p] = A ++ (b :: (a :: R)) ∧ ((A ++ (a :: (b :: R))).set (p + 1) (A ++ (a :: (b :: R)))[p]).set p (A ++ (a :: (b :: R)))[p + 1] = A ++ (b :: (a :: R)) := by
  subst hp
  have g1 : (A ++ (a :: (b :: R)))[A.length] = a := by
    have : (A ++ (a :: (b :: R)))[A.length]? = some a := by rw [List.getElem?_append_right (Nat.le_refl _), Nat.sub_self]; rfl
    rw [List.getElem?_eq_getElem h1] at this
    exact Option.some.inj this
  have g2 : (A ++ (a :: (b :: R)))[A.length + 1] = b := by
    have : (A ++ (a :: (b :: R)))[A.length + 1]? = some b := by rw [List.getElem?_append_right (by omega), Nat.add_sub_cancel_left]; rfl
    rw [List.getElem?_eq_getElem h2] at this
    exact Option.some.inj this
  rw [g1, g2]
  constructor
  · rw [List.set_append_right _ _ (Nat.le_refl _), Nat.sub_self, List.set_cons_zero, List.set_append_right _ _ (by omega), Nat.add_sub_cancel_left, List.set_cons_succ, List.set_cons_zero]
  · rw [List.set_append_right _ _ (by omega), Nat.add_sub_cancel_left, List.set_cons_succ, List.set_cons_zero, List.set_append_right _ _ (Nat.le_refl _), Nat.sub_self, List.set_cons_zero]
theorem upF_step {α : Type} (P : List α) (x : α) (Y S : List α) (k : Nat) (hk : k < Y.length) (p : Nat) (hp : p = P.length + k) (h1 : p < (upF P x Y S k).length) (h2 : p + 1 < (upF P x Y S k).length) :
    ((upF P x Y S k).set p (upF P x Y S k)[p + 1]).set (p + 1) (upF P x Y S k)[p] = upF P x Y S (k + 1) := by
  obtain ⟨e, l⟩ := upF_at P x Y S k hk p hp
  have e2 : upF P x Y S (k + 1) = (P ++ Y.take k) ++ (Y[k] :: (x :: (Y.drop (k + 1) ++ S))) := by
    unfold upF
    rw [List.take_succ_eq_append_getElem hk]
    simp only [List.append_assoc, List.cons_append, List.nil_append]
  rw [e2]
  simp only [e] at h1 h2 ⊢
  exact (swap1 (P ++ Y.take k) (Y.drop (k + 1) ++ S) x Y[k] p l h1 h2).1
/-- .. and down again. -/
theorem upF_back {α : Type} (P : List α) (x : α) (Y S : List α) (k : Nat) (hk : k < Y.length) (p : Nat) (hp : p = P.length + k) (h1 : p < (upF P x Y S (k + 1)).length) (h2 : p + 1 < (upF P x Y S (k + 1)).length) :
    ((upF P x Y S (k + 1)).set (p + 1) (upF P x Y S (k + 1))[p]).set p (upF P x Y S (k + 1))[p + 1] = upF P x Y S k := by
  obtain ⟨e, l⟩ := upF_at P x Y S k hk p hp
  have e2 : upF P x Y S (k + 1) = (P ++ Y.take k) ++ (Y[k] :: (x :: (Y.drop (k + 1) ++ S))) := by
    unfold upF
    rw [List.take_succ_eq_append_getElem hk]
    simp only [List.append_assoc, List.cons_append, List.nil_append]
  rw [e]
  simp only [e2] at h1 h2 ⊢
  exact (swap1 (P ++ Y.take k) (Y.drop (k + 1) ++ S) Y[k] x p l h1 h2).2

set_option maxHeartbeats 8000000 in
set_option maxRecDepth 100000 in
theorem sym_one (base g n cap : Nat) (P : List E) (x : E) (Y S : List E) (pa m pb : Nat) (w : World) (h : OwnQ w base g n cap ((P ++ ([x] ++ (Y ++ S))).map (·.1))) (hpa : P.length = pa) (hm : pa + 1 = m) (hpb : m + Y.length = pb) (hY : Srt Y) (ht : ∀ y ∈ Y, x.2 < y.2) (hn : n ≤ 1000000000) :
    Calls Tryz.prog 165 #[.slice (some ⟨g, 0, none⟩) n cap, .int .i64 pa, .int .i64 m, .int .i64 pb, .func (Fn.func 111) #[] #[]] w (SymIn w base g n cap P [x] Y S) := by
  have hlen := h.len
  rw [List.length_map] at hlen
  have hln : pb ≤ n := by
    simp only [List.length_append, List.length_singleton] at hlen
    omega
  obtain ⟨C, hC⟩ : ∃ C : List E, C = P ++ ([x] ++ (Y ++ S)) := ⟨_, rfl⟩
  rw [← hC] at h hlen
  have hCl : C.length = n := hlen
  have HO := Lib.hid h
  have CX : Hid (∀ h : pa < C.length, C[pa] = x) := fun h => by
    have := at_seg P [x] (Y ++ S) 0 (by simp) pa (by omega) (by rw [← hC]; exact h)
    simp only [← hC] at this
    exact this
  have CY : Hid (∀ k (hk : k < Y.length) (j : Nat) (hj : j = m + k) (h : j < C.length), C[j] = Y[k]) := fun k hk j hj h => by
    have e : C = (P ++ [x]) ++ (Y ++ S) := by rw [hC]; simp
    have := at_seg (P ++ [x]) Y S k hk j (by rw [List.length_append, List.length_singleton]; omega) (by rw [← e]; exact h)
    simp only [← e] at this
    exact this
  have CU : Hid (C = upF P x Y S 0) := by
    show _ = _
    rw [hC]; rfl
  have HY := Lib.hid hY
  have HT : Hid (∀ k (hk : k < Y.length), x.2 < Y[k].2) := fun k hk => ht _ (List.getElem_mem hk)
  have HPA := Lib.hid hpa.symm
  have HPB := Lib.hid hpb
  have hmb : m ≤ pb := by omega
  have hma : m = pa + 1 := hm.symm
  have z0 : ((m : Int) - (pa : Int) == 1) = true := by rw [show (m : Int) - (pa : Int) = 1 by omega]; rfl
  have HW0 := Lib.hid (World.grownBy.refl w (some g))
  clear hC hY ht hpa hpb hlen h hm
  go_enter Tryz.func165, Tryz.ntmps165
  go_wp2_with fail
  go_loopw [10, 11] (fun vi vj wr => ∃ (i j : Nat), vi = .int .i64 i ∧ vj = .int .i64 j ∧ m ≤ i ∧ i ≤ j ∧ j ≤ pb ∧ Hid (∀ k (hk : k < Y.length), m + k < i → ltE Y[k] x) ∧ Hid (∀ k (hk : k < Y.length), j ≤ m + k → ltE x Y[k]) ∧ Hid (OwnQ wr base g n cap (C.map (·.1))) ∧ Hid (w.grownBy wr (some g))) (fun vi vj _ => (intOf vj).toNat - (intOf vi).toNat)
  case atStart => exact ⟨m, pb, rfl, rfl, Nat.le_refl _, hmb, Nat.le_refl _, fun k hk h => absurd h (by omega), fun k hk h => absurd h (by have := HPB.out; omega), HO, HW0⟩
  case round =>
    obtain ⟨i, j, rfl, rfl, h1, h2, h3, HL, HG, HO, HW⟩ := hrel
    by_cases hij : i < j
    · obtain ⟨c, hc⟩ : ∃ c, c = (i + j) / 2 := ⟨_, rfl⟩
      have zc : ((i : Int) + (j : Int)) / 2 = (c : Int) := by omega
      have hic : i ≤ c := by omega
      have hcj : c < j := by omega
      have hcn : c < n := by omega
      have hpn : pa < n := by omega
      have hcy : c - m < Y.length := by have := HPB.out; omega
      clear hc
      go_upto_region 5 with fail
      obtain ⟨ka, kb, kc, kd, ke, kel, kec, kf, kfl, kfc, eC1, r0, r1, r2, r3, r4, r5, r6⟩ := HO.out.row (c) (by rw [List.length_map]; omega)
      obtain ⟨ja, jb, jc, jd, je, jel, jec, jf, jfl, jfc, eC0, s0, s1, s2, s3, s4, s5, s6⟩ := HO.out.row (pa) (by rw [List.length_map]; omega)
      simp only [List.getElem_map] at eC1 r0 eC0 s0
      have kk0 := cell_regrown r0
      have kk1 := cell_regrown r1
      have kk2 := cell_regrown r2
      have kk3 := cell_regrown r3
      have kk4 := cell_regrown r4
      have kk5 := cell_regrown r5
      have kk6 := cell_regrown r6
      have jj0 := cell_regrown s0
      have jj1 := cell_regrown s1
      have jj2 := cell_regrown s2
      have jj3 := cell_regrown s3
      have jj4 := cell_regrown s4
      have jj5 := cell_regrown s5
      have jj6 := cell_regrown s6
      have cQ : ∀ dd os, Calls Tryz.prog 111 #[.agg #[.string (kE C[c]), .int .i64 ka, .bool kb, .int .i64 kc, .string kd, .slice ke kel kec, .slice kf kfl kfc], .agg #[.string (kE C[pa]), .int .i64 ja, .bool jb, .int .i64 jc, .string jd, .slice je jel jec, .slice jf jfl jfc]] (grow (redrawn wr dd) os) fun e w'' => e = .returned (.int .i64 (cmpS (kE C[c]) (kE C[pa]))) ∧ ∃ q : Regrown, w'' = grow (redrawn wr q.d) q.os :=
        fun dd os => Calls.regrown_of (map1_any _ _ _ _ _ _ _ _ _ _ _ _ _ _ _ _ _ _ _ _ _ _ _)
      by_cases hlt2 : cmpS (kE C[c]) (kE C[pa]) < 0
      · refine wp_region_quiet_below (by kernel_rfl) (by kernel_rfl) ?_
        repeat (go_big_quiet_step (exact cQ _ _))
        refine wpQuiet_nil ?_
        intro _ hw'
        obtain ⟨⟨dq, osq⟩, hw''⟩ := hw'
        subst hw''
        have hbq := below_regrown wr dq osq
        simp only []
        generalize grow (redrawn wr dq) osq = w1 at hbq ⊢
        have HO1 := Lib.hid (HO.out.kept hbq)
        have HW1 := Lib.hid (grown_trans HW.out (grown_of_below hbq (some g)))
        clear kk0 kk1 kk2 kk3 kk4 kk5 kk6 jj0 jj1 jj2 jj3 jj4 jj5 jj6 r0 r1 r2 r3 r4 r5 r6 s0 s1 s2 s3 s4 s5 s6 cQ hbq
        have hlt := (cmp_later (HT.out (c - m) hcy)).1 (by rw [CX.out (by omega), CY.out (c - m) hcy c (by omega) (by omega)] at hlt2; exact hlt2)
        have HL2 : Hid (∀ k (hk : k < Y.length), m + k < c + 1 → ltE Y[k] x) := fun k hk hkc => by
          rcases Nat.lt_or_ge k (c - m) with h4 | h4
          · exact ltE_trans (HY.out.at hk hcy h4) hlt
          · obtain rfl : k = c - m := by omega
            exact hlt
        clear hlt HL
        go_wp2_with fail
        go_roundw
        case rel => exact ⟨c + 1, j, by go_num, rfl, by omega, by omega, h3, HL2, HG, HO1, HW1⟩
        case measure => simp [intOf]; omega

      · refine wp_region_quiet_below (by kernel_rfl) (by kernel_rfl) ?_
        repeat (go_big_quiet_step (exact cQ _ _))
        refine wpQuiet_nil ?_
        intro _ hw'
        obtain ⟨⟨dq, osq⟩, hw''⟩ := hw'
        subst hw''
        have hbq := below_regrown wr dq osq
        simp only []
        generalize grow (redrawn wr dq) osq = w1 at hbq ⊢
        have HO1 := Lib.hid (HO.out.kept hbq)
        have HW1 := Lib.hid (grown_trans HW.out (grown_of_below hbq (some g)))
        clear kk0 kk1 kk2 kk3 kk4 kk5 kk6 jj0 jj1 jj2 jj3 jj4 jj5 jj6 r0 r1 r2 r3 r4 r5 r6 s0 s1 s2 s3 s4 s5 s6 cQ hbq
        have hgt : ltE x Y[c - m] := ltE_total (by have := HT.out (c - m) hcy; omega) fun h4 => hlt2 (by rw [CX.out (by omega), CY.out (c - m) hcy c (by omega) (by omega)]; exact (cmp_later (HT.out (c - m) hcy)).2 h4)
        have HG2 : Hid (∀ k (hk : k < Y.length), c ≤ m + k → ltE x Y[k]) := fun k hk hkc => by
          rcases Nat.lt_or_ge (c - m) k with h4 | h4
          · exact ltE_trans hgt (HY.out.at hcy hk h4)
          · obtain rfl : k = c - m := by omega
            exact hgt
        clear hgt HG
        go_wp2_with fail
        go_roundw
        case rel => exact ⟨i, c, rfl, by go_num, h1, hic, by omega, HL, HG2, HO1, HW1⟩
        case measure => simp [intOf]; omega

    · obtain rfl : i = j := by omega
      have hY2 := one_left HY.out (i := i - m) (fun k hk hki => HL.out k hk (by omega)) (fun k hk hki => HG.out k hk (by omega))
      have HY2 := Lib.hid hY2
      obtain ⟨q, hq⟩ : ∃ q, q = i - m := ⟨_, rfl⟩
      have hiq : i = m + q := by omega
      rw [← hq] at HY2
      have hqy : q ≤ Y.length := by have := HPB.out; omega
      clear hY2 HL HG hq
      rw [CU.out] at HO
      go_wp2_with fail
      clear HW0
      go_loopw [13] (fun vi wr => ∃ (k : Nat), vi = .int .i64 ((pa + k : Nat) : Int) ∧ k ≤ q ∧ Hid (OwnQ wr base g n cap ((upF P x Y S k).map (·.1))) ∧ Hid (w.grownBy wr (some g))) (fun vi _ => q - ((intOf vi).toNat - pa))
      case atStart => exact ⟨0, rfl, Nat.zero_le _, HO, HW⟩
      case round =>
        clear HO HW
        obtain ⟨k, rfl, hkq, HO, HW⟩ := hrel
        have hCU : (upF P x Y S k).length = n := by have := HO.out.len; rwa [List.length_map] at this
        have zi : (i : Int) - 1 = ((pa + q : Nat) : Int) := by omega
        by_cases hk : k < q
        · have zk : ((pa + k : Nat) : Int) + 1 = ((pa + k + 1 : Nat) : Int) := by omega
          have f1 : decide (((pa + k : Nat) : Int) < (i : Int) - 1) = true := decide_eq_true (by omega)
          obtain ⟨ka, kb, kc, kd, ke, kel, kec, kf, kfl, kfc, eC1, r0, r1, r2, r3, r4, r5, r6⟩ := HO.out.row (pa + k) (by rw [List.length_map]; omega)
          obtain ⟨ja, jb, jc, jd, je, jel, jec, jf, jfl, jfc, eC0, s0, s1, s2, s3, s4, s5, s6⟩ := HO.out.row (pa + k + 1) (by rw [List.length_map]; omega)
          simp only [List.getElem_map] at eC1 r0 eC0 s0
          have hml : ((upF P x Y S k).map (·.1)).length = n := by rw [List.length_map]; omega
          have fz : ∀ j, wr.frozen? ⟨g, j, none⟩ = false := fun j => HO.out.own.frozenAt j
          go_upto_region 11 with fail
          go_region
          obtain ⟨hSw, hGw⟩ := HO.out.swapG (pa + k) (pa + k + 1) (by rw [List.length_map]; omega) (by rw [List.length_map]; omega)
          rw [map_swapG (upF P x Y S k) (pa + k) (pa + k + 1) (by omega) (by omega) (by rw [List.length_map]; omega) (by rw [List.length_map]; omega)] at hSw
          have er1 : (qrow ((upF P x Y S k).map (·.1))[pa + k + 1]).toList = [.string (kE (upF P x Y S k)[pa + k + 1]), .int .i64 ja, .bool jb, .int .i64 jc, .string jd, .slice je jel jec, .slice jf jfl jfc] := by simp [qrow, eC0, kE]
          have er0 : (qrow ((upF P x Y S k).map (·.1))[pa + k]).toList = [.string (kE (upF P x Y S k)[pa + k]), .int .i64 ka, .bool kb, .int .i64 kc, .string kd, .slice ke kel kec, .slice kf kfl kfc] := by simp [qrow, eC1, kE]
          rw [er0, er1] at hSw hGw
          refine (?_ : Exit.inBlock 3 _ _ _ (setRow (setRow wr g ((pa + k) * 7) [.string (kE (upF P x Y S k)[pa + k + 1]), .int .i64 ja, .bool jb, .int .i64 jc, .string jd, .slice je jel jec, .slice jf jfl jfc]) g ((pa + k + 1) * 7) [.string (kE (upF P x Y S k)[pa + k]), .int .i64 ka, .bool kb, .int .i64 kc, .string kd, .slice ke kel kec, .slice kf kfl kfc]).drew)
          generalize (setRow (setRow wr g ((pa + k) * 7) [.string (kE (upF P x Y S k)[pa + k + 1]), .int .i64 ja, .bool jb, .int .i64 jc, .string jd, .slice je jel jec, .slice jf jfl jfc]) g ((pa + k + 1) * 7) [.string (kE (upF P x Y S k)[pa + k]), .int .i64 ka, .bool kb, .int .i64 kc, .string kd, .slice ke kel kec, .slice kf kfl kfc]).drew = w2 at hSw hGw ⊢
          clear r0 r1 r2 r3 r4 r5 r6 s0 s1 s2 s3 s4 s5 s6 fz er0 er1 eC0 eC1
          rw [upF_step P x Y S k (by omega) (pa + k) (by rw [HPA.out]) (by omega) (by omega)] at hSw
          have HSW := Lib.hid hSw
          have HGW := Lib.hid (grown_trans HW.out hGw)
          clear hSw hGw HO HW
          go_wp2_with fail
          go_roundw
          case rel => exact ⟨k + 1, by go_num, by omega, HSW, HGW⟩
          case measure => simp [intOf]; omega
        · obtain rfl : k = q := by omega
          have f1 : decide (((pa + k : Nat) : Int) < (i : Int) - 1) = false := decide_eq_false (by omega)
          have HF : Hid (∃ Z, Srt Z ∧ Z.Perm ([x] ++ Y) ∧ OwnQ wr base g n cap ((P ++ (Z ++ S)).map (·.1))) := ⟨_, HY2.out.1, HY2.out.2, by
            have h4 := HO.out
            unfold upF at h4
            simpa using h4⟩
          go_wp2_with fail
          go_end0
          exact ⟨rfl, HF.out, HW.out⟩

end Go.Proofs.YthjdeckdklhphaaGreatDoor
