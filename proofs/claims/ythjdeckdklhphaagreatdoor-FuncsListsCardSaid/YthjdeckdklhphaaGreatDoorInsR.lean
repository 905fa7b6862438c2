/-
  The library's insertion sort of a range of pairs: it is stable.
-/
import Derived.Test.YthjdeckdklhphaaGreatDoorOverSM
import Derived.Test.YthjdeckdklhphaaGreatDoorSwapRM
set_option linter.unusedVariables false
set_option linter.unusedSimpArgs false
namespace Go.Proofs.YthjdeckdklhphaaGreatDoor
open Go.RowKit Go.Sort

/-- x stands at j, on its way down among Y, behind P and ahead of R. -/
def InsS (P R Y : List E) (x : E) (j : Nat) (C : List E) : Prop := ∃ Z1 Z2, C = P ++ (Z1 ++ (x :: (Z2 ++ R))) ∧ P.length + Z1.length = j ∧ Srt (Z1 ++ Z2) ∧ (∀ z ∈ Z2, ltE x z) ∧ (Z1 ++ Z2).Perm Y
theorem InsS.len {P R Y : List E} {x : E} {j : Nat} {C : List E} (h : InsS P R Y x j C) : j < C.length := by
  obtain ⟨Z1, Z2, rfl, hj, _⟩ := h
  simp only [List.length_append, List.length_cons]
  omega
theorem InsS.done {P R Y : List E} {x : E} {Z1 Z2 : List E} (hs : Srt (Z1 ++ Z2)) (h2 : ∀ z ∈ Z2, ltE x z) (h1 : ∀ z ∈ Z1, ltE z x) (hp : (Z1 ++ Z2).Perm Y) : ∃ Z, P ++ (Z1 ++ (x :: (Z2 ++ R))) = P ++ (Z ++ R) ∧ Srt Z ∧ Z.Perm (Y ++ [x]) := by
  refine ⟨Z1 ++ ([x] ++ Z2), by simp, Srt.app hs.left (Srt.app (show Srt [x] from List.pairwise_singleton _ _) hs.right fun a ha b hb => ?_) fun a ha b hb => ?_, ?_⟩
  · obtain rfl : a = x := by simpa using ha
    exact h2 b hb
  · rcases List.mem_append.1 hb with hb | hb
    · obtain rfl : b = x := by simpa using hb
      exact h1 a ha
    · exact hs.cross _ ha _ hb
  · have h := List.perm_middle (a := x) (l₁ := Z1) (l₂ := Z2)
    exact h.trans ((List.Perm.cons x hp).trans (List.perm_append_comm (l₁ := [x]) (l₂ := Y)))
theorem InsS.zero {P R Y : List E} {x : E} {j : Nat} {C : List E} (h : InsS P R Y x j C) (hj : j = P.length) : ∃ Z, C = P ++ (Z ++ R) ∧ Srt Z ∧ Z.Perm (Y ++ [x]) := by
  obtain ⟨Z1, Z2, rfl, hl, hs, h2, hp⟩ := h
  obtain rfl : Z1 = [] := List.eq_nil_of_length_eq_zero (by omega)
  exact InsS.done hs h2 (by simp) hp
/-- What stands ahead of x. -/
theorem InsS.at {P R Y : List E} {x : E} {p : Nat} {C : List E} (h : InsS P R Y x (p + 1) C) (hp : P.length ≤ p) (hpl : p + 1 < C.length) : C[p + 1] = x ∧ ∃ Z1 Z2 y, C = P ++ (Z1 ++ (y :: (x :: (Z2 ++ R)))) ∧ P.length + Z1.length = p ∧ C[p] = y ∧ Srt (Z1 ++ (y :: Z2)) ∧ (∀ z ∈ Z2, ltE x z) ∧ (Z1 ++ (y :: Z2)).Perm Y := by
  obtain ⟨Z0, Z2, rfl, hl, hs, h2, hpm⟩ := h
  obtain ⟨Z1, y, rfl⟩ : ∃ Z1 y, Z0 = Z1 ++ [y] := ⟨Z0.dropLast, Z0.getLast (fun e => by subst e; simp at hl; omega), (List.dropLast_concat_getLast _).symm⟩
  have hl2 : P.length + Z1.length = p := by simp at hl; omega
  have e : P ++ (Z1 ++ [y] ++ (x :: (Z2 ++ R))) = (P ++ Z1) ++ (y :: (x :: (Z2 ++ R))) := by simp
  have l1 : (P ++ Z1).length = p := by rw [List.length_append]; exact hl2
  have g1 : (P ++ (Z1 ++ [y] ++ (x :: (Z2 ++ R))))[p + 1]? = some x := by
    rw [e, List.getElem?_append_right (by omega), l1, Nat.add_sub_cancel_left]
    rfl
  have g2 : (P ++ (Z1 ++ [y] ++ (x :: (Z2 ++ R))))[p]? = some y := by
    rw [e, List.getElem?_append_right (by omega), l1, Nat.sub_self]
    rfl
  rw [List.getElem?_eq_getElem hpl] at g1
  rw [List.getElem?_eq_getElem (by omega)] at g2
  refine ⟨Option.some.inj g1, Z1, Z2, y, by simp, hl2, Option.some.inj g2, by simpa using hs, h2, by simpa using hpm⟩
theorem InsS.less {P R Y : List E} {x : E} {p : Nat} {C : List E} (h : InsS P R Y x (p + 1) C) (hp : P.length ≤ p) (hpl : p + 1 < C.length) (ht : ∀ y ∈ Y, y.2 < x.2) (hc : cmpS (kE C[p + 1]) (kE C[p]) < 0) : InsS P R Y x p ((C.set (p + 1) C[p]).set p C[p + 1]) := by
  obtain ⟨e1, Z1, Z2, y, e, hl, e2, hs, h2, hpm⟩ := h.at hp hpl
  have hy : y ∈ Y := hpm.mem_iff.1 (by simp)
  rw [e1, e2] at hc ⊢
  have hlt := (cmp_later (ht y hy)).1 hc
  refine ⟨Z1, y :: Z2, ?_, hl, hs, fun z hz => ?_, hpm⟩
  · have l1 : (P ++ Z1).length = p := by rw [List.length_append]; exact hl
    have e3 : C = (P ++ Z1) ++ (y :: ([] ++ (x :: (Z2 ++ R)))) := by rw [e]; simp
    rw [e3, List.set_append_right _ _ (by omega), l1, Nat.add_sub_cancel_left, List.set_append_right _ _ (by omega), l1, Nat.sub_self]
    simp
  · rcases List.mem_cons.1 hz with rfl | hz
    · exact hlt
    · exact h2 z hz
theorem InsS.stop {P R Y : List E} {x : E} {p : Nat} {C : List E} (h : InsS P R Y x (p + 1) C) (hp : P.length ≤ p) (hpl : p + 1 < C.length) (ht : ∀ y ∈ Y, y.2 < x.2) (hc : ¬ cmpS (kE C[p + 1]) (kE C[p]) < 0) : ∃ Z, C = P ++ (Z ++ R) ∧ Srt Z ∧ Z.Perm (Y ++ [x]) := by
  obtain ⟨e1, Z1, Z2, y, e, hl, e2, hs, h2, hpm⟩ := h.at hp hpl
  have hy : y ∈ Y := hpm.mem_iff.1 (by simp)
  rw [e1, e2] at hc
  have hgt : ltE y x := ltE_total (by have := ht y hy; omega) fun h => hc ((cmp_later (ht y hy)).2 h)
  have := InsS.done (P := P) (R := R) (Z1 := Z1 ++ [y]) (Z2 := Z2) (by simpa using hs) h2 (fun z hz => by
    rcases List.mem_append.1 hz with hz | hz
    · exact ltE_trans (hs.cross _ hz _ (by simp)) hgt
    · obtain rfl : z = y := by simpa using hz
      exact hgt) (by simpa using hpm)
  rw [e]
  simpa using this

/-- Behind i rounds: the first of X are sorted. -/
def InsO (P X S : List E) (i : Nat) (C : List E) : Prop := ∃ Z, C = P ++ (Z ++ (X.drop (i - P.length) ++ S)) ∧ Srt Z ∧ Z.Perm (X.take (i - P.length))
theorem InsO.start (P X S : List E) : InsO P X S (P.length + 1) (P ++ (X ++ S)) := by
  rw [InsO, Nat.add_sub_cancel_left]
  refine ⟨X.take 1, ?_, ?_, List.Perm.refl _⟩
  · rw [← List.append_assoc (X.take 1), List.take_append_drop]
  · cases X with
    | nil => exact List.Pairwise.nil
    | cons x r => simp only [List.take_succ_cons, List.take_zero]; exact List.pairwise_singleton _ _
theorem InsO.go {P X S : List E} {i : Nat} {C : List E} (h : InsO P X S i C) (h1 : P.length ≤ i) (hi : i < P.length + X.length) : InsS P (X.drop (i - P.length + 1) ++ S) (X.take (i - P.length)) (X[i - P.length]'(by omega)) i C := by
  obtain ⟨Z, rfl, hs, hp⟩ := h
  refine ⟨Z, [], ?_, ?_, by simpa using hs, by simp, by simpa using hp⟩
  · rw [List.drop_eq_getElem_cons (by omega : i - P.length < X.length)]
    simp only [List.nil_append, List.cons_append]
  · have := hp.length_eq
    rw [List.length_take] at this
    omega
theorem InsO.next {P X S : List E} {i : Nat} {C : List E} (h1 : P.length ≤ i) (hi : i < P.length + X.length) (h : ∃ Z, C = P ++ (Z ++ (X.drop (i - P.length + 1) ++ S)) ∧ Srt Z ∧ Z.Perm (X.take (i - P.length) ++ [X[i - P.length]'(by omega)])) : InsO P X S (i + 1) C := by
  obtain ⟨Z, e, hs, hp⟩ := h
  have e2 : i + 1 - P.length = i - P.length + 1 := by omega
  refine ⟨Z, by rw [e2]; exact e, hs, ?_⟩
  rw [e2, List.take_succ_eq_append_getElem (by omega : i - P.length < X.length)]
  exact hp
theorem InsO.all {P X S : List E} {i : Nat} {C : List E} (h : InsO P X S i C) (hi : P.length + X.length ≤ i) : ∃ Z, C = P ++ (Z ++ S) ∧ Srt Z ∧ Z.Perm X := by
  obtain ⟨Z, e, hs, hp⟩ := h
  rw [List.drop_of_length_le (by omega), List.nil_append] at e
  rw [List.take_of_length_le (by omega)] at hp
  exact ⟨Z, e, hs, hp⟩
theorem map_swap (C : List E) (p : Nat) (hp : p + 1 < C.length) (h1 : p + 1 < (C.map (·.1)).length) : ((C.map (·.1)).set (p + 1) (C.map (·.1))[p]).set p (C.map (·.1))[p + 1] = ((C.set (p + 1) C[p]).set p C[p + 1]).map (·.1) := by
  rw [List.map_set, List.map_set, List.getElem_map, List.getElem_map]

set_option maxHeartbeats 4000000 in
set_option maxRecDepth 100000 in
theorem insertR_any (base g n cap : Nat) (P X S : List E) (pa pb : Nat) (w : World) (h : OwnQ w base g n cap ((P ++ (X ++ S)).map (·.1))) (hpa : P.length = pa) (hpb : P.length + X.length = pb) (ht : X.Pairwise fun x y => x.2 < y.2) (hn : n ≤ 1000000000) :
    Calls Tryz.prog 164 #[.slice (some ⟨g, 0, none⟩) n cap, .int .i64 pa, .int .i64 pb, .func (Fn.func 111) #[] #[]] w fun e w' => e = .returned (.tuple #[]) ∧ (∃ Z, Srt Z ∧ Z.Perm X ∧ OwnQ w' base g n cap ((P ++ (Z ++ S)).map (·.1))) ∧ w.grownBy w' (some g) := by
  have hlen := h.len
  have hln : pb ≤ n := by
    simp only [List.length_map, List.length_append] at hlen
    omega
  have HT : Hid (∀ i (h2 : i - P.length < X.length), ∀ y ∈ X.take (i - P.length), y.2 < (X[i - P.length]'h2).2) := fun i h2 y hy => by
    obtain ⟨k, hk, hki, rfl⟩ := mem_take_at hy
    exact List.pairwise_iff_getElem.1 ht k (i - P.length) hk h2 hki
  have HPB := Lib.hid hpb
  have hpab : pa ≤ pb := by omega
  have HO0 : Hid (∃ C, OwnQ w base g n cap (C.map (·.1)) ∧ InsO P X S (pa + 1) C) := ⟨_, h, by rw [← hpa]; exact InsO.start P X S⟩
  have HPA := Lib.hid hpa.symm
  clear hlen ht hpb h hpa
  go_enter Tryz.func164, Tryz.ntmps164
  go_wp2_with fail
  go_loopw [8] (fun vi wr => ∃ i : Nat, pa + 1 ≤ i ∧ i ≤ n + 1 ∧ vi = .int .i64 i ∧ Hid (∃ C, OwnQ wr base g n cap (C.map (·.1)) ∧ InsO P X S i C) ∧ w.grownBy wr (some g)) (fun vi _ => pb - (intOf vi).toNat)
  case atStart => exact ⟨pa + 1, by omega, by omega, by go_num, HO0, World.grownBy.refl _ _⟩
  case round =>
    obtain ⟨i, hi1, hin, rfl, hO, hG⟩ := hrel
    by_cases hlt : i < pb
    · go_wp2_with fail
      obtain ⟨wo, rfl⟩ : ∃ wo : World, wo = wr := ⟨_, rfl⟩
      obtain ⟨C0, hO0, hI0⟩ := hO.out
      have HO := Lib.hid hO0
      have hpn := HPB.out
      have hix : i - P.length < X.length := by have := HPA.out; omega
      have HI0 : Hid (InsS P (X.drop (i - P.length + 1) ++ S) (X.take (i - P.length)) (X[i - P.length]'hix) i C0) := hI0.go (by rw [← HPA.out]; omega) (by rw [hpn]; exact hlt)
      have HTT := Lib.hid (HT.out i hix)
      have HNX : Hid (∀ C, (∃ Z, C = P ++ (Z ++ (X.drop (i - P.length + 1) ++ S)) ∧ Srt Z ∧ Z.Perm (X.take (i - P.length) ++ [X[i - P.length]'hix])) → InsO P X S (i + 1) C) := fun C hC => InsO.next (by rw [← HPA.out]; omega) (by rw [hpn]; exact hlt) hC
      have HG := Lib.hid hG
      clear hO hG hI0 hO0 hpn
      go_loopw [9] (fun vj wr => ∃ (j : Nat) (C : List E), pa ≤ j ∧ j ≤ i ∧ vj = .int .i64 j ∧ OwnQ wr base g n cap (C.map (·.1)) ∧ Hid (InsS P (X.drop (i - P.length + 1) ++ S) (X.take (i - P.length)) (X[i - P.length]'hix) j C) ∧ w.grownBy wr (some g)) (fun vj _ => (intOf vj).toNat)
      case atStart => exact ⟨i, C0, by omega, Nat.le_refl _, rfl, HO.out, HI0, HG.out⟩
      case round =>
        obtain ⟨j, C, hpj, hji, rfl, hC, hb, hG⟩ := hrel
        have hCl := hC.len
        have hCm : C.length = n := by rw [List.length_map] at hCl; exact hCl
        by_cases hj0 : j = pa
        · subst hj0
          have z4 : decide ((j : Int) < (j : Int)) = false := by simp
          have HC := Lib.hid hC
          have HE := Lib.hid (HNX.out C (hb.out.zero HPA.out))
          have HGG := Lib.hid hG
          clear hb hC hG
          go_wp2_with fail
          go_quiet (fail)
          go_wp2_with fail
          go_roundw
          case rel => exact ⟨i + 1, by omega, by omega, by go_num, ⟨C, ⟨HC.out.len, HC.out.own, HC.out.six⟩, HE.out⟩, grown_trans HGG.out (grown_of_below (bdrewN (Below.refl _ _) _) _)⟩
          case measure => simp [intOf]; omega
        · obtain ⟨p, rfl⟩ : ∃ p, j = p + 1 := ⟨j - 1, by omega⟩
          have hpp : pa ≤ p := by omega
          have hcp : p + 1 < C.length := by omega
          obtain ⟨k, b, m, s, la, ll, lc, ma, ml, mc, eC1, r0, r1, r2, r3, r4, r5, r6⟩ := hC.row (p + 1) (by omega)
          simp only [List.getElem_map] at eC1 r0
          obtain ⟨k', b', m', s', la', ll', lc', ma', ml', mc', eC0, s0, s1, s2, s3, s4, s5, s6⟩ := hC.row p (by omega)
          simp only [List.getElem_map] at eC0 s0
          have z4 : decide ((pa : Int) < (p : Int) + 1) = true := decide_eq_true (by omega)
          have z1 : IntKind.i64.wrap ((p : Int) + 1 - 1) = (p : Int) := by rw [show (p : Int) + 1 - 1 = (p : Int) by omega]; exact IntWalk.i64_in _ (by omega)
          have HC := Lib.hid hC
          have HGG := Lib.hid hG
          clear hC hG
          have k0 := cell_regrown r0
          have k1 := cell_regrown r1
          have k2 := cell_regrown r2
          have k3 := cell_regrown r3
          have k4 := cell_regrown r4
          have k5 := cell_regrown r5
          have k6 := cell_regrown r6
          have j0 := cell_regrown s0
          have j1 := cell_regrown s1
          have j2 := cell_regrown s2
          have j3 := cell_regrown s3
          have j4 := cell_regrown s4
          have j5 := cell_regrown s5
          have j6 := cell_regrown s6
          have cQ : ∀ dd os, Calls Tryz.prog 111 #[.agg #[.string (kE C[p + 1]), .int .i64 k, .bool b, .int .i64 m, .string s, .slice la ll lc, .slice ma ml mc], .agg #[.string (kE C[p]), .int .i64 k', .bool b', .int .i64 m', .string s', .slice la' ll' lc', .slice ma' ml' mc']] (grow (redrawn wr dd) os) fun e w'' => e = .returned (.int .i64 (cmpS (kE C[p + 1]) (kE C[p]))) ∧ ∃ q : Regrown, w'' = grow (redrawn wr q.d) q.os :=
            fun dd os => Calls.regrown_of (map1_any _ _ _ _ _ _ _ _ _ _ _ _ _ _ _ _ _ _ _ _ _ _ _)
          have BS := Lib.hid (hb.out.less (by rw [← HPA.out]; exact hpp) hcp HTT.out)
          have BT := Lib.hid (fun hc => HNX.out C (hb.out.stop (by rw [← HPA.out]; exact hpp) hcp HTT.out hc))
          by_cases hlt2 : cmpS (kE C[p + 1]) (kE C[p]) < 0
          · have HS := Lib.hid (BS.out hlt2)
            go_wp2_with fail
            refine wp_region_quiet_below (by kernel_rfl) (by kernel_rfl) ?_
            repeat (go_big_quiet_step (exact cQ _ _))
            refine wpQuiet_nil ?_
            intro _ hw'
            obtain ⟨⟨dq, osq⟩, hw''⟩ := hw'
            subst hw''
            have hbq := below_regrown wr dq osq
            simp only []
            generalize grow (redrawn wr dq) osq = w1 at hbq ⊢
            have hC1 := HC.out.kept hbq
            have fz : ∀ j, w1.frozen? ⟨g, j, none⟩ = false := fun j => hC1.own.frozenAt j
            have q0 := cells_frame hbq r0
            have q1 := cells_frame hbq r1
            have q2 := cells_frame hbq r2
            have q3 := cells_frame hbq r3
            have q4 := cells_frame hbq r4
            have q5 := cells_frame hbq r5
            have q6 := cells_frame hbq r6
            have p0 := cells_frame hbq s0
            have p1 := cells_frame hbq s1
            have p2 := cells_frame hbq s2
            have p3 := cells_frame hbq s3
            have p4 := cells_frame hbq s4
            have p5 := cells_frame hbq s5
            have p6 := cells_frame hbq s6
            have HC1 := Lib.hid hC1
            clear k0 k1 k2 k3 k4 k5 k6 j0 j1 j2 j3 j4 j5 j6 r0 r1 r2 r3 r4 r5 r6 s0 s1 s2 s3 s4 s5 s6 cQ hC1
            go_wp2_with fail
            go_region
            obtain ⟨hSw, hGw⟩ := HC1.out.swap p (by omega)
            rw [map_swap C p hcp (by omega)] at hSw
            have er0 : (qrow (C.map (·.1))[p]).toList = [.string (kE C[p]), .int .i64 k', .bool b', .int .i64 m', .string s', .slice la' ll' lc', .slice ma' ml' mc'] := by simp [qrow, eC0, kE]
            have er1 : (qrow (C.map (·.1))[p + 1]).toList = [.string (kE C[p + 1]), .int .i64 k, .bool b, .int .i64 m, .string s, .slice la ll lc, .slice ma ml mc] := by simp [qrow, eC1, kE]
            rw [er0, er1] at hSw hGw
            have hGw2 := grown_trans HGG.out (grown_trans (grown_of_below hbq (some g)) hGw)
            clear q0 q1 q2 q3 q4 q5 q6 p0 p1 p2 p3 p4 p5 p6 fz er0 er1 hGw
            refine (?_ : Exit.inBlock 3 _ _ _ (setRow (setRow w1 g ((p + 1) * 7) [.string (kE C[p]), .int .i64 k', .bool b', .int .i64 m', .string s', .slice la' ll' lc', .slice ma' ml' mc']) g (p * 7) [.string (kE C[p + 1]), .int .i64 k, .bool b, .int .i64 m, .string s, .slice la ll lc, .slice ma ml mc]).drew)
            generalize (setRow (setRow w1 g ((p + 1) * 7) [.string (kE C[p]), .int .i64 k', .bool b', .int .i64 m', .string s', .slice la' ll' lc', .slice ma' ml' mc']) g (p * 7) [.string (kE C[p + 1]), .int .i64 k, .bool b, .int .i64 m, .string s, .slice la ll lc, .slice ma ml mc]).drew = w2 at hSw hGw2 ⊢
            have HSW := Lib.hid hSw
            have HGW := Lib.hid hGw2
            clear hSw hGw2
            go_wp2_with fail
            go_roundw
            case rel => exact ⟨p, _, hpp, by omega, by go_num, HSW.out, HS, HGW.out⟩
            case measure => simp [intOf]
          · have HS := Lib.hid (BT.out hlt2)
            go_wp2_with fail
            refine wp_region_quiet_below (by kernel_rfl) (by kernel_rfl) ?_
            repeat (go_big_quiet_step (exact cQ _ _))
            refine wpQuiet_nil ?_
            intro _ hw'
            obtain ⟨⟨dq, osq⟩, hw''⟩ := hw'
            subst hw''
            have hbq := below_regrown wr dq osq
            simp only []
            generalize grow (redrawn wr dq) osq = w1 at hbq ⊢
            have HC1 := Lib.hid (HC.out.kept hbq)
            have HGW := Lib.hid (grown_trans HGG.out (grown_of_below hbq (some g)))
            clear k0 k1 k2 k3 k4 k5 k6 j0 j1 j2 j3 j4 j5 j6 r0 r1 r2 r3 r4 r5 r6 s0 s1 s2 s3 s4 s5 s6 cQ
            go_wp2_with fail
            go_roundw
            case rel => exact ⟨i + 1, by omega, by omega, by go_num, ⟨C, HC1.out, HS.out⟩, HGW.out⟩
            case measure => simp [intOf]; omega
    · obtain ⟨C0, hO0, hI0⟩ := hO.out
      obtain ⟨Z, rfl, hs, hp⟩ := hI0.all (by have := HPB.out; omega)
      have HF : Hid (∃ Z, Srt Z ∧ Z.Perm X ∧ OwnQ wr base g n cap ((P ++ (Z ++ S)).map (·.1))) := ⟨Z, hs, hp, hO0⟩
      clear hO hI0 hO0 hs hp
      go_wp2_with fail
      go_end0
      exact ⟨rfl, HF.out, hG⟩
end Go.Proofs.YthjdeckdklhphaaGreatDoor
