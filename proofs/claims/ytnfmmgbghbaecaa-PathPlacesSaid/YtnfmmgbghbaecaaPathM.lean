/-
  PathPlaces: the law's contract.
-/
import Derived.Test.YtnfmmgbghbaecaaR2Drop
import Derived.Test.YtnfmmgbghbaecaaR2Prune
import Derived.Test.YtnfmmgbghbaecaaPathQ
set_option linter.unusedVariables false
set_option linter.unusedSimpArgs false
namespace Go.Proofs.Ytnfmmgbghbaecaa
open Go.RowKit Go.Sort

set_option maxRecDepth 100000 in
set_option maxHeartbeats 8000000 in
theorem pathPlaces_any {w : World} {R1 R2 : Nat → Prop} {t x : T} {cs es : Array Value} {ks : List ByteArray} {sa : Option Addr} {sc : Nat} (h1 : Lies w R1 t cs) (h2 : Lies w R2 x es) (hS : SliceS w ks sa sc) :
    Calls Try.prog 10 #[.agg cs, .agg es, .slice sa ks.length sc] w fun e w' => e = .returned (.bool true) ∧ Below w.heap.size w w' := by
  have H1 := Lib.hid h1
  have H2 := Lib.hid h2
  have HS := Lib.hid hS
  have hkle := hS.le
  have hkbig := hS.big
  obtain ⟨k, b, n, s, la, ll, lc, ma, ml, mc, rfl⟩ := h1.six
  obtain ⟨k2, b2, n2, s2, la2, ll2, lc2, ma2, ml2, mc2, rfl⟩ := h2.six
  have hb0 := ((Below.refl w.heap.size w).alloc (Nat.le_refl _) (.cells #[.int .i64 k, .bool b, .int .i64 n, .string s, .slice la ll lc, .slice ma ml mc] 25)).alloc (by simp) (.cells #[.int .i64 k2, .bool b2, .int .i64 n2, .string s2, .slice la2 ll2 lc2, .slice ma2 ml2 mc2] 25)
  have hsz : ((w.alloc (.cells #[.int .i64 k, .bool b, .int .i64 n, .string s, .slice la ll lc, .slice ma ml mc] 25)).alloc (.cells #[.int .i64 k2, .bool b2, .int .i64 n2, .string s2, .slice la2 ll2 lc2, .slice ma2 ml2 mc2] 25)).heap.size = w.heap.size + 2 := by simp
  have c1 : Box6 ((w.alloc (.cells #[.int .i64 k, .bool b, .int .i64 n, .string s, .slice la ll lc, .slice ma ml mc] 25)).alloc (.cells #[.int .i64 k2, .bool b2, .int .i64 n2, .string s2, .slice la2 ll2 lc2, .slice ma2 ml2 mc2] 25)) w.heap.size #[.int .i64 k, .bool b, .int .i64 n, .string s, .slice la ll lc, .slice ma ml mc] := (Box6.new w _ _).later ((Below.refl (w.heap.size + 1) _).alloc (by simp) _) (by omega)
  have c2 := Box6.new (w.alloc (.cells #[.int .i64 k, .bool b, .int .i64 n, .string s, .slice la ll lc, .slice ma ml mc] 25)) #[.int .i64 k2, .bool b2, .int .i64 n2, .string s2, .slice la2 ll2 lc2, .slice ma2 ml2 mc2] 25
  rw [World.size_alloc] at c2
  clear h1 h2 hS
  go_enter Try.func10, Try.ntmps10
  go_upto_region 1 with fail
  generalize (w.alloc (.cells #[.int .i64 k, .bool b, .int .i64 n, .string s, .slice la ll lc, .slice ma ml mc] 25)).alloc (.cells #[.int .i64 k2, .bool b2, .int .i64 n2, .string s2, .slice la2 ll2 lc2, .slice ma2 ml2 mc2] 25) = v at hb0 hsz c1 c2 ⊢
  have HV := Lib.hid hb0
  have C1 := Lib.hid c1
  have C2 := Lib.hid c2
  have hv2 : w.heap.size + 2 ≤ v.heap.size := by omega
  obtain ⟨x0, x1, x2, x3, x4, x5⟩ := c1.six
  obtain ⟨y0, y1, y2, y3, y4, y5⟩ := c2.six
  have hr := right_any (two_values (H1.out.later hb0) (H2.out.later hb0)) _ (Below.refl _ _)
  have HR := Lib.hid hr
  have hal := (Below.refl v.heap.size v).alloc (Nat.le_refl _) (.cells #[.int .i64 k, .bool b, .int .i64 n, .string s, .slice la ll lc, .slice ma ml mc, .int .i64 k2, .bool b2, .int .i64 n2, .string s2, .slice la2 ll2 lc2, .slice ma2 ml2 mc2] 25)
  have HAL := Lib.hid hal
  clear hb0 hsz c1 c2 hr hal
  have AW : Hid (∀ w1, Below v.heap.size v w1 → Calls Try.prog 49 #[] w1 fun e w' => e = .returned (.bool true) ∧ Below v.heap.size v w') := fun w1 hb => (l2awake_any w1).mono fun e w' ⟨he, hw⟩ => ⟨he, bstep hb hw hb.size⟩
  cases hg : [t, x].all T.good with
  | false =>
    rw [hg] at HR
    clear hg
    go_wp2_with (first
      | (go_at_call 30; refine HR.out.mono ?_; rintro e w2 ⟨rfl, hb2⟩; have HB2 := Lib.hid (bstep HAL.out hb2 HAL.out.size); clear hb2)
      | (go_at_call 49; refine (AW.out _ HB2.out).mono ?_; rintro e w3 ⟨rfl, hb3⟩))
    go_ret
    exact ⟨rfl, bstep HV.out hb3 HV.out.size⟩
  | true =>
    have hgt : t.good = true := by simp at hg; exact hg.1
    rw [hg] at HR
    have HGT := Lib.hid hgt
    clear hg hgt
    cases hst : stepsB ks with
    | false =>
      have ST : Hid (∀ w1, Below w.heap.size w w1 → Calls Try.prog 48 #[.slice sa ks.length sc] w1 fun e w' => e = .returned (.bool false) ∧ w' = w1) := fun w1 hb => by have := l2Steps_any HS.out w1 hb; rw [hst] at this; exact this
      clear hst
      go_wp2_with (first
        | (go_at_call 30; refine HR.out.mono ?_; rintro e w2 ⟨rfl, hb2⟩; have HB2 := Lib.hid (bstep HAL.out hb2 HAL.out.size); clear hb2)
        | ((with_reducible refine (ST.out _ (bstep HV.out HB2.out HV.out.size)).mono ?_); rintro e wq ⟨rfl, hwq⟩; have hwq2 := hwq.symm; subst hwq2)
        | (go_at_call 49; refine (AW.out _ HB2.out).mono ?_; rintro e w3 ⟨rfl, hb3⟩))
      go_ret
      exact ⟨rfl, bstep HV.out hb3 HV.out.size⟩
    | true =>
      have ST : Hid (∀ w1, Below w.heap.size w w1 → Calls Try.prog 48 #[.slice sa ks.length sc] w1 fun e w' => e = .returned (.bool true) ∧ w' = w1) := fun w1 hb => by have := l2Steps_any HS.out w1 hb; rw [hst] at this; exact this
      have hlt : t.size ≤ 6000 := by
        have h := HGT.out
        unfold T.good at h
        simp only [Bool.and_eq_true] at h
        exact T.light_size h.1
      have hk14 : ks.length ≤ 14 := by
        have h := hst
        unfold stepsB at h
        simp only [Bool.and_eq_true, decide_eq_true_eq] at h
        exact h.2
      have hpt := good_parts HGT.out
      obtain ⟨xT, hxT⟩ : ∃ xT, xT = x := ⟨_, rfl⟩
      rw [← hxT] at H2
      have eP : putQ ks t xT = putL ks t xT := putQ_put ks t xT hpt
      have eD : dropQ ks t = dropAt ks t := dropQ_drop ks t hpt
      have eQ : pruneQ ks t = pruneAt ks t := pruneQ_prune ks t hpt
      have eG : getQ ks t = atL ks t := getQ_at ks t hpt
      have GA : Hid (∀ w', Below w.heap.size w w' → Calls Try.prog 50 #[.agg #[.int .i64 k, .bool b, .int .i64 n, .string s, .slice la ll lc, .slice ma ml mc], .slice sa ks.length sc] w' (Got w' (atL ks t))) := fun w' hw' => pGet_any H1.out HS.out w' hw'
      have GB : Hid (∀ w', Below w.heap.size w w' → Calls Try.prog 51 #[.agg #[.int .i64 k, .bool b, .int .i64 n, .string s, .slice la ll lc, .slice ma ml mc], .slice sa ks.length sc] w' (RGot w R1 w' (atL ks t))) := fun w' hw' => by have := r2Get_any H1.out HS.out w' hw'; rw [eG] at this; exact this
      have PA : Hid (∀ w', Below w.heap.size w w' → Calls Try.prog 52 #[.agg #[.int .i64 k, .bool b, .int .i64 n, .string s, .slice la ll lc, .slice ma ml mc], .agg #[.int .i64 k2, .bool b2, .int .i64 n2, .string s2, .slice la2 ll2 lc2, .slice ma2 ml2 mc2], .slice sa ks.length sc] w' (PutIn w' (putL ks t xT))) := fun w' hw' => pPut_any H1.out H2.out HS.out (by omega) (by omega) w' hw'
      have PB : Hid (∀ w', Below w.heap.size w w' → Calls Try.prog 53 #[.agg #[.int .i64 k, .bool b, .int .i64 n, .string s, .slice la ll lc, .slice ma ml mc], .agg #[.int .i64 k2, .bool b2, .int .i64 n2, .string s2, .slice la2 ll2 lc2, .slice ma2 ml2 mc2], .slice sa ks.length sc] w' (Laid w w' (putL ks t xT))) := fun w' hw' => by have := r2Put_any ks H1.out H2.out HS.out (by omega) w' hw'; rw [eP] at this; exact this
      have DA : Hid (∀ w', Below w.heap.size w w' → Calls Try.prog 54 #[.agg #[.int .i64 k, .bool b, .int .i64 n, .string s, .slice la ll lc, .slice ma ml mc], .slice sa ks.length sc] w' (PutIn w' (dropAt ks t))) := fun w' hw' => pDrop_any H1.out HS.out (by omega) (by omega) w' hw'
      have DB : Hid (∀ w', Below w.heap.size w w' → Calls Try.prog 55 #[.agg #[.int .i64 k, .bool b, .int .i64 n, .string s, .slice la ll lc, .slice ma ml mc], .slice sa ks.length sc] w' (Laid w w' (dropAt ks t))) := fun w' hw' => by have := r2Drop_any ks H1.out HS.out (by omega) w' hw'; rw [eD] at this; exact this
      have QA : Hid (∀ w', Below w.heap.size w w' → Calls Try.prog 56 #[.agg #[.int .i64 k, .bool b, .int .i64 n, .string s, .slice la ll lc, .slice ma ml mc], .slice sa ks.length sc] w' (PutIn w' (pruneAt ks t))) := fun w' hw' => pPrune_any H1.out HS.out (by omega) (by omega) w' hw'
      have QB : Hid (∀ w', Below w.heap.size w w' → Calls Try.prog 57 #[.agg #[.int .i64 k, .bool b, .int .i64 n, .string s, .slice la ll lc, .slice ma ml mc], .slice sa ks.length sc] w' (Laid w w' (pruneAt ks t))) := fun w' hw' => by have := r2Prune_any ks H1.out HS.out (by omega) w' hw'; rw [eQ] at this; exact this
      clear hst hlt hk14 hpt hxT eP eD eQ eG
      go_upto_region 3 with (first
        | (go_at_call 30; refine HR.out.mono ?_; rintro e w2 ⟨rfl, hb2⟩; have HB2 := Lib.hid (bstep HAL.out hb2 HAL.out.size); clear hb2)
        | ((with_reducible refine (ST.out _ (bstep HV.out HB2.out HV.out.size)).mono ?_); rintro e wq ⟨rfl, hwq⟩; have hwq2 := hwq.symm; subst hwq2))
      have HBW := Lib.hid (bstep HV.out HB2.out HV.out.size)
      have hs2 := HB2.out.size
      clear x0 x1 x2 x3 x4 x5 y0 y1 y2 y3 y4 y5
      obtain ⟨x0, x1, x2, x3, x4, x5⟩ := (C1.out.later HB2.out (by omega)).six
      generalize putL ks t xT = pT at PA PB
      generalize dropAt ks t = dT at DA DB
      generalize pruneAt ks t = qT at QA QB
      generalize atL ks t = aT at GA GB
      go_upto_region 4 with (go_at_call 50; refine (GA.out w2 HBW.out).mono ?_; rintro e w3 ⟨avs, rfl, hL, hb⟩; obtain ⟨a0, a1, a2, a3, a4, a4l, a4c, a5, a5l, a5c, rfl⟩ := hL.six; have HL3 := Lib.hid hL; have HB3 := Lib.hid hb; clear hL hb)
      have ba := Box6.new w3 #[.int .i64 a0, .bool a1, .int .i64 a2, .string a3, .slice a4 a4l a4c, .slice a5 a5l a5c] 25
      have hb3 := HB3.out.alloc HB3.out.size (.cells #[.int .i64 a0, .bool a1, .int .i64 a2, .string a3, .slice a4 a4l a4c, .slice a5 a5l a5c] 25)
      have hl3 := (HL3.out.later ((Below.refl w3.heap.size w3).alloc (Nat.le_refl _) (.cells #[.int .i64 a0, .bool a1, .int .i64 a2, .string a3, .slice a4 a4l a4c, .slice a5 a5l a5c] 25))).weaken (R' := fun _ => True) fun _ _ => trivial
      have hs3 : w3.heap.size < (w3.alloc (.cells #[.int .i64 a0, .bool a1, .int .i64 a2, .string a3, .slice a4 a4l a4c, .slice a5 a5l a5c] 25)).heap.size := by simp
      generalize w3.alloc (.cells #[.int .i64 a0, .bool a1, .int .i64 a2, .string a3, .slice a4 a4l a4c, .slice a5 a5l a5c] 25) = v3 at ba hb3 hl3 hs3 ⊢
      have BA := Lib.hid ba
      have LA := Lib.hid hl3
      have SA3 := Lib.hid hs3
      have HV3 := Lib.hid (bstep HB2.out hb3 HB2.out.size)
      have HW3 := Lib.hid (bstep HBW.out hb3 HBW.out.size)
      have hv3 := HV3.out.size
      clear x0 x1 x2 x3 x4 x5
      obtain ⟨x0, x1, x2, x3, x4, x5⟩ := (C1.out.later HV3.out (by omega)).six
      clear ba hb3 hl3 hs3
      go_upto_region 5 with (go_at_call 51; refine (GB.out v3 HW3.out).mono ?_; rintro e w4 ⟨bvs, rfl, hL, hb⟩; obtain ⟨bb0, bb1, bb2, bb3, bb4, bb4l, bb4c, bb5, bb5l, bb5c, rfl⟩ := hL.six; have HL4 := Lib.hid hL; have HB4 := Lib.hid hb; clear hL hb)
      have bb := Box6.new w4 #[.int .i64 bb0, .bool bb1, .int .i64 bb2, .string bb3, .slice bb4 bb4l bb4c, .slice bb5 bb5l bb5c] 25
      have hb4 := HB4.out.alloc HB4.out.size (.cells #[.int .i64 bb0, .bool bb1, .int .i64 bb2, .string bb3, .slice bb4 bb4l bb4c, .slice bb5 bb5l bb5c] 25)
      have hl4 := (HL4.out.later ((Below.refl w4.heap.size w4).alloc (Nat.le_refl _) (.cells #[.int .i64 bb0, .bool bb1, .int .i64 bb2, .string bb3, .slice bb4 bb4l bb4c, .slice bb5 bb5l bb5c] 25))).weaken (R' := fun _ => True) fun _ _ => trivial
      have hs4 : w4.heap.size < (w4.alloc (.cells #[.int .i64 bb0, .bool bb1, .int .i64 bb2, .string bb3, .slice bb4 bb4l bb4c, .slice bb5 bb5l bb5c] 25)).heap.size := by simp
      generalize w4.alloc (.cells #[.int .i64 bb0, .bool bb1, .int .i64 bb2, .string bb3, .slice bb4 bb4l bb4c, .slice bb5 bb5l bb5c] 25) = u at bb hb4 hl4 hs4 ⊢
      have HU3 := Lib.hid (bstep HV3.out hb4 HV3.out.size)
      have HWU := Lib.hid (bstep HW3.out hb4 HW3.out.size)
      have HVU := Lib.hid (bstep HV.out (bstep HV3.out hb4 HV3.out.size) HV.out.size)
      have LA4 := Lib.hid (LA.out.later hb4)
      have LB4 := Lib.hid hl4
      clear x0 x1 x2 x3 x4 x5
      obtain ⟨q0, q1, q2, q3, q4, q5⟩ := (C1.out.later HU3.out (by omega)).six
      obtain ⟨r0, r1, r2, r3, r4, r5⟩ := (C2.out.later HU3.out (by omega)).six
      have hsa3 := SA3.out
      obtain ⟨g0, g1, g2, g3, g4, g5⟩ := (BA.out.later hb4 hsa3).six
      obtain ⟨h0, h1, h2, h3, h4, h5⟩ := bb.six
      have SAB : Hid (∀ w', Below u.heap.size u w' → Calls Try.prog 25 #[.agg #[.int .i64 a0, .bool a1, .int .i64 a2, .string a3, .slice a4 a4l a4c, .slice a5 a5l a5c], .agg #[.int .i64 bb0, .bool bb1, .int .i64 bb2, .string bb3, .slice bb4 bb4l bb4c, .slice bb5 bb5l bb5c]] w' fun e w2 => e = .returned (.bool true) ∧ Below w'.heap.size w' w2) := fun w' hw' => by
        have := rSame_any (LA4.out.later hw') (LB4.out.later hw') w' (Below.refl _ _)
        rw [T.same_self] at this
        exact this
      have AW2 : Hid (∀ w', Calls Try.prog 49 #[] w' fun e w2 => e = .returned (.bool true) ∧ Below w'.heap.size w' w2) := fun w' => l2awake_any w'
      clear bb hb4 hl4 hs4 hsa3
      generalize aT.isSome = bq
      go_upto_region 5 with fail
      refine wp_region_specs3 u 41 (fun i => match i with | 0 => 34 | 1 => 35 | 2 => 36 | 3 => 37 | 4 => 38 | 5 => 39 | 6 => 40 | 7 => 41 | 8 => 42 | 9 => 43 | 10 => 44 | 11 => 45 | 12 => 46 | 13 => 47 | 14 => 48 | 15 => 49 | 16 => 50 | 17 => 51 | 18 => 52 | 19 => 53 | 20 => 54 | 21 => 55 | 22 => 56 | 23 => 57 | 24 => 58 | 25 => 59 | 26 => 60 | 27 => 61 | 28 => 62 | 29 => 63 | 30 => 64 | 31 => 65 | 32 => 66 | 33 => 67 | 34 => 68 | 35 => 69 | 36 => 70 | 37 => 71 | 38 => 72 | 39 => 73 | 40 => 6 | _ => 0) (fun i x wx => match i with | 0 => x = .bool true | 1 => x = .bool true | 2 => x = .bool bq | 3 => x = .bool bq | 4 => x = .bool true | 5 => x = .bool true | 6 => x = .bool true | 7 => x = .agg #[.int .i64 a0, .bool a1, .int .i64 a2, .string a3, .slice a4 a4l a4c, .slice a5 a5l a5c] | 8 => x = .agg #[.int .i64 bb0, .bool bb1, .int .i64 bb2, .string bb3, .slice bb4 bb4l bb4c, .slice bb5 bb5l bb5c] | 9 => x = .bool true | 10 => x = .bool true | 11 => x = .bool true | 12 => x = .agg #[.int .i64 k, .bool b, .int .i64 n, .string s, .slice la ll lc, .slice ma ml mc] | 13 => x = .agg #[.int .i64 k2, .bool b2, .int .i64 n2, .string s2, .slice la2 ll2 lc2, .slice ma2 ml2 mc2] | 14 => x = .slice sa ks.length sc | 15 => ∃ ds : Array Value, x = .agg ds ∧ Lies wx (fun _ => True) (pT) ds | 16 => x = .agg #[.int .i64 k, .bool b, .int .i64 n, .string s, .slice la ll lc, .slice ma ml mc] | 17 => x = .agg #[.int .i64 k2, .bool b2, .int .i64 n2, .string s2, .slice la2 ll2 lc2, .slice ma2 ml2 mc2] | 18 => x = .slice sa ks.length sc | 19 => ∃ ds : Array Value, x = .agg ds ∧ Lies wx (fun _ => True) (pT) ds | 20 => x = .bool true | 21 => x = .bool true | 22 => x = .bool true | 23 => x = .agg #[.int .i64 k, .bool b, .int .i64 n, .string s, .slice la ll lc, .slice ma ml mc] | 24 => x = .slice sa ks.length sc | 25 => ∃ ds : Array Value, x = .agg ds ∧ Lies wx (fun _ => True) (dT) ds | 26 => x = .agg #[.int .i64 k, .bool b, .int .i64 n, .string s, .slice la ll lc, .slice ma ml mc] | 27 => x = .slice sa ks.length sc | 28 => ∃ ds : Array Value, x = .agg ds ∧ Lies wx (fun _ => True) (dT) ds | 29 => x = .bool true | 30 => x = .bool true | 31 => x = .bool true | 32 => x = .agg #[.int .i64 k, .bool b, .int .i64 n, .string s, .slice la ll lc, .slice ma ml mc] | 33 => x = .slice sa ks.length sc | 34 => ∃ ds : Array Value, x = .agg ds ∧ Lies wx (fun _ => True) (qT) ds | 35 => x = .agg #[.int .i64 k, .bool b, .int .i64 n, .string s, .slice la ll lc, .slice ma ml mc] | 36 => x = .slice sa ks.length sc | 37 => ∃ ds : Array Value, x = .agg ds ∧ Lies wx (fun _ => True) (qT) ds | 38 => x = .bool true | 39 => x = .bool true | 40 => x = .bool true | _ => True) (by kernel_rfl) (by kernel_rfl) ?s1 (Below.refl _ _) ?s2 ?s3 ?s4 ?s5
      case s1 => intro i hi; rcases (by omega : i = 0 ∨ i = 1 ∨ i = 2 ∨ i = 3 ∨ i = 4 ∨ i = 5 ∨ i = 6 ∨ i = 7 ∨ i = 8 ∨ i = 9 ∨ i = 10 ∨ i = 11 ∨ i = 12 ∨ i = 13 ∨ i = 14 ∨ i = 15 ∨ i = 16 ∨ i = 17 ∨ i = 18 ∨ i = 19 ∨ i = 20 ∨ i = 21 ∨ i = 22 ∨ i = 23 ∨ i = 24 ∨ i = 25 ∨ i = 26 ∨ i = 27 ∨ i = 28 ∨ i = 29 ∨ i = 30 ∨ i = 31 ∨ i = 32 ∨ i = 33 ∨ i = 34 ∨ i = 35 ∨ i = 36 ∨ i = 37 ∨ i = 38 ∨ i = 39 ∨ i = 40) with rfl | rfl | rfl | rfl | rfl | rfl | rfl | rfl | rfl | rfl | rfl | rfl | rfl | rfl | rfl | rfl | rfl | rfl | rfl | rfl | rfl | rfl | rfl | rfl | rfl | rfl | rfl | rfl | rfl | rfl | rfl | rfl | rfl | rfl | rfl | rfl | rfl | rfl | rfl | rfl | rfl <;> exact Nat.lt_of_lt_of_le (by decide : _ < 74) (Nat.le_refl 74)
      case s2 =>
        intro i x w1 w2 hb hU
        match i, hU with
        | 0, h => exact h
        | 4, h => exact h
        | 9, h => exact h
        | 15, ⟨ds, e, hL⟩ => exact ⟨ds, e, hL.later hb⟩
        | 19, ⟨ds, e, hL⟩ => exact ⟨ds, e, hL.later hb⟩
        | 20, h => exact h
        | 25, ⟨ds, e, hL⟩ => exact ⟨ds, e, hL.later hb⟩
        | 28, ⟨ds, e, hL⟩ => exact ⟨ds, e, hL.later hb⟩
        | 29, h => exact h
        | 34, ⟨ds, e, hL⟩ => exact ⟨ds, e, hL.later hb⟩
        | 37, ⟨ds, e, hL⟩ => exact ⟨ds, e, hL.later hb⟩
        | 38, h => exact h
        | 1, h | 2, h | 3, h | 5, h | 6, h | 7, h | 8, h | 10, h | 11, h | 12, h | 13, h | 14, h | 16, h | 17, h | 18, h | 21, h | 22, h | 23, h | 24, h | 26, h | 27, h | 30, h | 31, h | 32, h | 33, h | 35, h | 36, h | 39, h | 40, h => exact h
        | (n + 41), _ => trivial
      case s3 =>
        intro i o g b ho hg x w hu
        have hi : i < 41 := (Array.getElem?_eq_some_iff.1 ho).1
        rcases (by omega : i = 0 ∨ i = 1 ∨ i = 2 ∨ i = 3 ∨ i = 4 ∨ i = 5 ∨ i = 6 ∨ i = 7 ∨ i = 8 ∨ i = 9 ∨ i = 10 ∨ i = 11 ∨ i = 12 ∨ i = 13 ∨ i = 14 ∨ i = 15 ∨ i = 16 ∨ i = 17 ∨ i = 18 ∨ i = 19 ∨ i = 20 ∨ i = 21 ∨ i = 22 ∨ i = 23 ∨ i = 24 ∨ i = 25 ∨ i = 26 ∨ i = 27 ∨ i = 28 ∨ i = 29 ∨ i = 30 ∨ i = 31 ∨ i = 32 ∨ i = 33 ∨ i = 34 ∨ i = 35 ∨ i = 36 ∨ i = 37 ∨ i = 38 ∨ i = 39 ∨ i = 40) with rfl | rfl | rfl | rfl | rfl | rfl | rfl | rfl | rfl | rfl | rfl | rfl | rfl | rfl | rfl | rfl | rfl | rfl | rfl | rfl | rfl | rfl | rfl | rfl | rfl | rfl | rfl | rfl | rfl | rfl | rfl | rfl | rfl | rfl | rfl | rfl | rfl | rfl | rfl | rfl | rfl
        · simp at ho; subst ho; cases hg
        · simp at ho; subst ho; cases hg
        · simp at ho; subst ho; cases hg; exact hu
        · simp at ho; subst ho; cases hg; exact hu
        · simp at ho; subst ho; cases hg; exact hu
        · simp at ho; subst ho; cases hg
        · simp at ho; subst ho; cases hg
        · simp at ho; subst ho; cases hg; exact hu
        · simp at ho; subst ho; cases hg; exact hu
        · simp at ho; subst ho; cases hg; exact hu
        · simp at ho; subst ho; cases hg
        · simp at ho; subst ho; cases hg
        · simp at ho; subst ho; cases hg; exact hu
        · simp at ho; subst ho; cases hg; exact hu
        · simp at ho; subst ho; cases hg; exact hu
        · simp at ho; subst ho; cases hg; exact hu
        · simp at ho; subst ho; cases hg; exact hu
        · simp at ho; subst ho; cases hg; exact hu
        · simp at ho; subst ho; cases hg; exact hu
        · simp at ho; subst ho; cases hg; exact hu
        · simp at ho; subst ho; cases hg; exact hu
        · simp at ho; subst ho; cases hg
        · simp at ho; subst ho; cases hg
        · simp at ho; subst ho; cases hg; exact hu
        · simp at ho; subst ho; cases hg; exact hu
        · simp at ho; subst ho; cases hg; exact hu
        · simp at ho; subst ho; cases hg; exact hu
        · simp at ho; subst ho; cases hg; exact hu
        · simp at ho; subst ho; cases hg; exact hu
        · simp at ho; subst ho; cases hg; exact hu
        · simp at ho; subst ho; cases hg
        · simp at ho; subst ho; cases hg
        · simp at ho; subst ho; cases hg; exact hu
        · simp at ho; subst ho; cases hg; exact hu
        · simp at ho; subst ho; cases hg; exact hu
        · simp at ho; subst ho; cases hg; exact hu
        · simp at ho; subst ho; cases hg; exact hu
        · simp at ho; subst ho; cases hg; exact hu
        · simp at ho; subst ho; cases hg; exact hu
        · simp at ho; subst ho; cases hg
        · simp at ho; subst ho; cases hg
      case s4 =>
        intro i o ac wb K' ho hi hA hB hdep hK
        have sv2 : ac.tmps[2]?.getD undef = .slice sa ks.length sc := hA.sl (t := 2) (by decide)
        have sv3 : ac.tmps[3]?.getD undef = .pointer (some ⟨w.heap.size, 0, none⟩) := hA.sl (t := 3) (by decide)
        have sv4 : ac.tmps[4]?.getD undef = .pointer (some ⟨w.heap.size + 1, 0, none⟩) := hA.sl (t := 4) (by decide)
        have sv7 : ac.tmps[7]?.getD undef = .pointer (some ⟨w3.heap.size, 0, none⟩) := hA.sl (t := 7) (by decide)
        have sv8 : ac.tmps[8]?.getD undef = .bool bq := hA.sl (t := 8) (by decide)
        have sv9 : ac.tmps[9]?.getD undef = .pointer (some ⟨w4.heap.size, 0, none⟩) := hA.sl (t := 9) (by decide)
        have sv10 : ac.tmps[10]?.getD undef = .bool bq := hA.sl (t := 10) (by decide)
        have q0 := cells_frame hB q0
        have q1 := cells_frame hB q1
        have q2 := cells_frame hB q2
        have q3 := cells_frame hB q3
        have q4 := cells_frame hB q4
        have q5 := cells_frame hB q5
        have r0 := cells_frame hB r0
        have r1 := cells_frame hB r1
        have r2 := cells_frame hB r2
        have r3 := cells_frame hB r3
        have r4 := cells_frame hB r4
        have r5 := cells_frame hB r5
        have g0 := cells_frame hB g0
        have g1 := cells_frame hB g1
        have g2 := cells_frame hB g2
        have g3 := cells_frame hB g3
        have g4 := cells_frame hB g4
        have g5 := cells_frame hB g5
        have h0 := cells_frame hB h0
        have h1 := cells_frame hB h1
        have h2 := cells_frame hB h2
        have h3 := cells_frame hB h3
        have h4 := cells_frame hB h4
        have h5 := cells_frame hB h5
        rcases (by omega : i = 0 ∨ i = 1 ∨ i = 2 ∨ i = 3 ∨ i = 4 ∨ i = 5 ∨ i = 6 ∨ i = 7 ∨ i = 8 ∨ i = 9 ∨ i = 10 ∨ i = 11 ∨ i = 12 ∨ i = 13 ∨ i = 14 ∨ i = 15 ∨ i = 16 ∨ i = 17 ∨ i = 18 ∨ i = 19 ∨ i = 20 ∨ i = 21 ∨ i = 22 ∨ i = 23 ∨ i = 24 ∨ i = 25 ∨ i = 26 ∨ i = 27 ∨ i = 28 ∨ i = 29 ∨ i = 30 ∨ i = 31 ∨ i = 32 ∨ i = 33 ∨ i = 34 ∨ i = 35 ∨ i = 36 ∨ i = 37 ∨ i = 38 ∨ i = 39 ∨ i = 40) with rfl | rfl | rfl | rfl | rfl | rfl | rfl | rfl | rfl | rfl | rfl | rfl | rfl | rfl | rfl | rfl | rfl | rfl | rfl | rfl | rfl | rfl | rfl | rfl | rfl | rfl | rfl | rfl | rfl | rfl | rfl | rfl | rfl | rfl | rfl | rfl | rfl | rfl | rfl | rfl | rfl
        · simp at ho
          subst ho
          clear hdep hA
          go_simp
          refine (AW2.out wb).mono ?_
          rintro e w3 ⟨rfl, hb3⟩
          exact hK _ w3 hb3 rfl
        · simp at ho
          subst ho
          have y0 : ac.tmps[34]?.getD undef = .bool true := hdep { on := 0, ground := .data } (by simp) rfl
          clear hdep hA
          go_simp
          exact hK _ wb (Below.refl _ _) rfl
        · simp at ho
          subst ho
          clear hdep hA
          go_simp
          exact hK _ wb (Below.refl _ _) rfl
        · simp at ho
          subst ho
          clear hdep hA
          go_simp
          exact hK _ wb (Below.refl _ _) rfl
        · simp at ho
          subst ho
          have y2 : ac.tmps[36]?.getD undef = .bool bq := hdep { on := 2, ground := .data } (by simp) rfl
          have y3 : ac.tmps[37]?.getD undef = .bool bq := hdep { on := 3, ground := .data } (by simp) rfl
          clear hdep hA
          go_simp
          exact hK _ wb (Below.refl _ _) (by simp)
        · simp at ho
          subst ho
          have y1 : ac.tmps[35]?.getD undef = .bool true := hdep { on := 1, ground := .data } (by simp) rfl
          have y4 : ac.tmps[38]?.getD undef = .bool true := hdep { on := 4, ground := .data } (by simp) rfl
          clear hdep hA
          go_simp
          exact hK _ wb (Below.refl _ _) rfl
        · simp at ho
          subst ho
          have y5 : ac.tmps[39]?.getD undef = .bool true := hdep { on := 5, ground := .data } (by simp) rfl
          clear hdep hA
          go_simp
          exact hK _ wb (Below.refl _ _) rfl
        · simp at ho
          subst ho
          clear hdep hA
          go_simp
          exact hK _ wb (Below.refl _ _) rfl
        · simp at ho
          subst ho
          clear hdep hA
          go_simp
          exact hK _ wb (Below.refl _ _) rfl
        · simp at ho
          subst ho
          have y7 : ac.tmps[41]?.getD undef = .agg #[.int .i64 a0, .bool a1, .int .i64 a2, .string a3, .slice a4 a4l a4c, .slice a5 a5l a5c] := hdep { on := 7, ground := .data } (by simp) rfl
          have y8 : ac.tmps[42]?.getD undef = .agg #[.int .i64 bb0, .bool bb1, .int .i64 bb2, .string bb3, .slice bb4 bb4l bb4c, .slice bb5 bb5l bb5c] := hdep { on := 8, ground := .data } (by simp) rfl
          clear hdep hA
          go_simp
          refine (SAB.out wb hB).mono ?_
          rintro e w3 ⟨rfl, hb3⟩
          exact hK _ w3 hb3 rfl
        · simp at ho
          subst ho
          have y6 : ac.tmps[40]?.getD undef = .bool true := hdep { on := 6, ground := .data } (by simp) rfl
          have y9 : ac.tmps[43]?.getD undef = .bool true := hdep { on := 9, ground := .data } (by simp) rfl
          clear hdep hA
          go_simp
          exact hK _ wb (Below.refl _ _) rfl
        · simp at ho
          subst ho
          have y10 : ac.tmps[44]?.getD undef = .bool true := hdep { on := 10, ground := .data } (by simp) rfl
          clear hdep hA
          go_simp
          exact hK _ wb (Below.refl _ _) rfl
        · simp at ho
          subst ho
          clear hdep hA
          go_simp
          exact hK _ wb (Below.refl _ _) rfl
        · simp at ho
          subst ho
          clear hdep hA
          go_simp
          exact hK _ wb (Below.refl _ _) rfl
        · simp at ho
          subst ho
          clear hdep hA
          go_simp
          exact hK _ wb (Below.refl _ _) rfl
        · simp at ho
          subst ho
          have y12 : ac.tmps[46]?.getD undef = .agg #[.int .i64 k, .bool b, .int .i64 n, .string s, .slice la ll lc, .slice ma ml mc] := hdep { on := 12, ground := .data } (by simp) rfl
          have y13 : ac.tmps[47]?.getD undef = .agg #[.int .i64 k2, .bool b2, .int .i64 n2, .string s2, .slice la2 ll2 lc2, .slice ma2 ml2 mc2] := hdep { on := 13, ground := .data } (by simp) rfl
          have y14 : ac.tmps[48]?.getD undef = .slice sa ks.length sc := hdep { on := 14, ground := .data } (by simp) rfl
          clear hdep hA
          go_simp
          refine (PA.out wb (bstep HWU.out hB HWU.out.size)).mono ?_
          rintro e w3 ⟨ds, rfl, hL, hb3⟩
          exact hK _ w3 hb3 ⟨ds, rfl, hL.weaken fun _ _ => trivial⟩
        · simp at ho
          subst ho
          clear hdep hA
          go_simp
          exact hK _ wb (Below.refl _ _) rfl
        · simp at ho
          subst ho
          clear hdep hA
          go_simp
          exact hK _ wb (Below.refl _ _) rfl
        · simp at ho
          subst ho
          clear hdep hA
          go_simp
          exact hK _ wb (Below.refl _ _) rfl
        · simp at ho
          subst ho
          have y16 : ac.tmps[50]?.getD undef = .agg #[.int .i64 k, .bool b, .int .i64 n, .string s, .slice la ll lc, .slice ma ml mc] := hdep { on := 16, ground := .data } (by simp) rfl
          have y17 : ac.tmps[51]?.getD undef = .agg #[.int .i64 k2, .bool b2, .int .i64 n2, .string s2, .slice la2 ll2 lc2, .slice ma2 ml2 mc2] := hdep { on := 17, ground := .data } (by simp) rfl
          have y18 : ac.tmps[52]?.getD undef = .slice sa ks.length sc := hdep { on := 18, ground := .data } (by simp) rfl
          clear hdep hA
          go_simp
          refine (PB.out wb (bstep HWU.out hB HWU.out.size)).mono ?_
          rintro e w3 ⟨ds, rfl, hL, hb3⟩
          exact hK _ w3 hb3 ⟨ds, rfl, hL.weaken fun _ _ => trivial⟩
        · simp at ho
          subst ho
          obtain ⟨dsy15, y15, hLy15⟩ := hdep { on := 15, ground := .data } (by simp) rfl
          obtain ⟨d0, d1, d2, d3, d4, d4l, d4c, d5, d5l, d5c, rfl⟩ := hLy15.six
          have y15 : ac.tmps[49]?.getD undef = _ := y15
          obtain ⟨dsy19, y19, hLy19⟩ := hdep { on := 19, ground := .data } (by simp) rfl
          obtain ⟨j0, j1, j2, j3, j4, j4l, j4c, j5, j5l, j5c, rfl⟩ := hLy19.six
          have y19 : ac.tmps[53]?.getD undef = _ := y19
          clear hdep hA
          go_simp
          have hsm := rSame_any hLy15 hLy19 wb (Below.refl _ _)
          rw [T.same_self] at hsm
          refine hsm.mono ?_
          rintro e w3 ⟨rfl, hb3⟩
          exact hK _ w3 hb3 rfl
        · simp at ho
          subst ho
          have y11 : ac.tmps[45]?.getD undef = .bool true := hdep { on := 11, ground := .data } (by simp) rfl
          have y20 : ac.tmps[54]?.getD undef = .bool true := hdep { on := 20, ground := .data } (by simp) rfl
          clear hdep hA
          go_simp
          exact hK _ wb (Below.refl _ _) rfl
        · simp at ho
          subst ho
          have y21 : ac.tmps[55]?.getD undef = .bool true := hdep { on := 21, ground := .data } (by simp) rfl
          clear hdep hA
          go_simp
          exact hK _ wb (Below.refl _ _) rfl
        · simp at ho
          subst ho
          clear hdep hA
          go_simp
          exact hK _ wb (Below.refl _ _) rfl
        · simp at ho
          subst ho
          clear hdep hA
          go_simp
          exact hK _ wb (Below.refl _ _) rfl
        · simp at ho
          subst ho
          have y23 : ac.tmps[57]?.getD undef = .agg #[.int .i64 k, .bool b, .int .i64 n, .string s, .slice la ll lc, .slice ma ml mc] := hdep { on := 23, ground := .data } (by simp) rfl
          have y24 : ac.tmps[58]?.getD undef = .slice sa ks.length sc := hdep { on := 24, ground := .data } (by simp) rfl
          clear hdep hA
          go_simp
          refine (DA.out wb (bstep HWU.out hB HWU.out.size)).mono ?_
          rintro e w3 ⟨ds, rfl, hL, hb3⟩
          exact hK _ w3 hb3 ⟨ds, rfl, hL.weaken fun _ _ => trivial⟩
        · simp at ho
          subst ho
          clear hdep hA
          go_simp
          exact hK _ wb (Below.refl _ _) rfl
        · simp at ho
          subst ho
          clear hdep hA
          go_simp
          exact hK _ wb (Below.refl _ _) rfl
        · simp at ho
          subst ho
          have y26 : ac.tmps[60]?.getD undef = .agg #[.int .i64 k, .bool b, .int .i64 n, .string s, .slice la ll lc, .slice ma ml mc] := hdep { on := 26, ground := .data } (by simp) rfl
          have y27 : ac.tmps[61]?.getD undef = .slice sa ks.length sc := hdep { on := 27, ground := .data } (by simp) rfl
          clear hdep hA
          go_simp
          refine (DB.out wb (bstep HWU.out hB HWU.out.size)).mono ?_
          rintro e w3 ⟨ds, rfl, hL, hb3⟩
          exact hK _ w3 hb3 ⟨ds, rfl, hL.weaken fun _ _ => trivial⟩
        · simp at ho
          subst ho
          obtain ⟨dsy25, y25, hLy25⟩ := hdep { on := 25, ground := .data } (by simp) rfl
          obtain ⟨d0, d1, d2, d3, d4, d4l, d4c, d5, d5l, d5c, rfl⟩ := hLy25.six
          have y25 : ac.tmps[59]?.getD undef = _ := y25
          obtain ⟨dsy28, y28, hLy28⟩ := hdep { on := 28, ground := .data } (by simp) rfl
          obtain ⟨j0, j1, j2, j3, j4, j4l, j4c, j5, j5l, j5c, rfl⟩ := hLy28.six
          have y28 : ac.tmps[62]?.getD undef = _ := y28
          clear hdep hA
          go_simp
          have hsm := rSame_any hLy25 hLy28 wb (Below.refl _ _)
          rw [T.same_self] at hsm
          refine hsm.mono ?_
          rintro e w3 ⟨rfl, hb3⟩
          exact hK _ w3 hb3 rfl
        · simp at ho
          subst ho
          have y22 : ac.tmps[56]?.getD undef = .bool true := hdep { on := 22, ground := .data } (by simp) rfl
          have y29 : ac.tmps[63]?.getD undef = .bool true := hdep { on := 29, ground := .data } (by simp) rfl
          clear hdep hA
          go_simp
          exact hK _ wb (Below.refl _ _) rfl
        · simp at ho
          subst ho
          have y30 : ac.tmps[64]?.getD undef = .bool true := hdep { on := 30, ground := .data } (by simp) rfl
          clear hdep hA
          go_simp
          exact hK _ wb (Below.refl _ _) rfl
        · simp at ho
          subst ho
          clear hdep hA
          go_simp
          exact hK _ wb (Below.refl _ _) rfl
        · simp at ho
          subst ho
          clear hdep hA
          go_simp
          exact hK _ wb (Below.refl _ _) rfl
        · simp at ho
          subst ho
          have y32 : ac.tmps[66]?.getD undef = .agg #[.int .i64 k, .bool b, .int .i64 n, .string s, .slice la ll lc, .slice ma ml mc] := hdep { on := 32, ground := .data } (by simp) rfl
          have y33 : ac.tmps[67]?.getD undef = .slice sa ks.length sc := hdep { on := 33, ground := .data } (by simp) rfl
          clear hdep hA
          go_simp
          refine (QA.out wb (bstep HWU.out hB HWU.out.size)).mono ?_
          rintro e w3 ⟨ds, rfl, hL, hb3⟩
          exact hK _ w3 hb3 ⟨ds, rfl, hL.weaken fun _ _ => trivial⟩
        · simp at ho
          subst ho
          clear hdep hA
          go_simp
          exact hK _ wb (Below.refl _ _) rfl
        · simp at ho
          subst ho
          clear hdep hA
          go_simp
          exact hK _ wb (Below.refl _ _) rfl
        · simp at ho
          subst ho
          have y35 : ac.tmps[69]?.getD undef = .agg #[.int .i64 k, .bool b, .int .i64 n, .string s, .slice la ll lc, .slice ma ml mc] := hdep { on := 35, ground := .data } (by simp) rfl
          have y36 : ac.tmps[70]?.getD undef = .slice sa ks.length sc := hdep { on := 36, ground := .data } (by simp) rfl
          clear hdep hA
          go_simp
          refine (QB.out wb (bstep HWU.out hB HWU.out.size)).mono ?_
          rintro e w3 ⟨ds, rfl, hL, hb3⟩
          exact hK _ w3 hb3 ⟨ds, rfl, hL.weaken fun _ _ => trivial⟩
        · simp at ho
          subst ho
          obtain ⟨dsy34, y34, hLy34⟩ := hdep { on := 34, ground := .data } (by simp) rfl
          obtain ⟨d0, d1, d2, d3, d4, d4l, d4c, d5, d5l, d5c, rfl⟩ := hLy34.six
          have y34 : ac.tmps[68]?.getD undef = _ := y34
          obtain ⟨dsy37, y37, hLy37⟩ := hdep { on := 37, ground := .data } (by simp) rfl
          obtain ⟨j0, j1, j2, j3, j4, j4l, j4c, j5, j5l, j5c, rfl⟩ := hLy37.six
          have y37 : ac.tmps[71]?.getD undef = _ := y37
          clear hdep hA
          go_simp
          have hsm := rSame_any hLy34 hLy37 wb (Below.refl _ _)
          rw [T.same_self] at hsm
          refine hsm.mono ?_
          rintro e w3 ⟨rfl, hb3⟩
          exact hK _ w3 hb3 rfl
        · simp at ho
          subst ho
          have y31 : ac.tmps[65]?.getD undef = .bool true := hdep { on := 31, ground := .data } (by simp) rfl
          have y38 : ac.tmps[72]?.getD undef = .bool true := hdep { on := 38, ground := .data } (by simp) rfl
          clear hdep hA
          go_simp
          exact hK _ wb (Below.refl _ _) rfl
        · simp at ho
          subst ho
          have y39 : ac.tmps[73]?.getD undef = .bool true := hdep { on := 39, ground := .data } (by simp) rfl
          clear hdep hA
          go_simp
          exact hK _ wb (Below.refl _ _) rfl
      case s5 =>
        intro ac wn hA hB hU
        have hs : slots 41 (fun i => match i with | 0 => 34 | 1 => 35 | 2 => 36 | 3 => 37 | 4 => 38 | 5 => 39 | 6 => 40 | 7 => 41 | 8 => 42 | 9 => 43 | 10 => 44 | 11 => 45 | 12 => 46 | 13 => 47 | 14 => 48 | 15 => 49 | 16 => 50 | 17 => 51 | 18 => 52 | 19 => 53 | 20 => 54 | 21 => 55 | 22 => 56 | 23 => 57 | 24 => 58 | 25 => 59 | 26 => 60 | 27 => 61 | 28 => 62 | 29 => 63 | 30 => 64 | 31 => 65 | 32 => 66 | 33 => 67 | 34 => 68 | 35 => 69 | 36 => 70 | 37 => 71 | 38 => 72 | 39 => 73 | 40 => 6 | _ => 0) = [34, 35, 36, 37, 38, 39, 40, 41, 42, 43, 44, 45, 46, 47, 48, 49, 50, 51, 52, 53, 54, 55, 56, 57, 58, 59, 60, 61, 62, 63, 64, 65, 66, 67, 68, 69, 70, 71, 72, 73, 6] := by rfl
        rw [hs] at hA
        have hac := hA.act (fun t ht => by
          have h8 : t = 34 ∨ t = 35 ∨ t = 36 ∨ t = 37 ∨ t = 38 ∨ t = 39 ∨ t = 40 ∨ t = 41 ∨ t = 42 ∨ t = 43 ∨ t = 44 ∨ t = 45 ∨ t = 46 ∨ t = 47 ∨ t = 48 ∨ t = 49 ∨ t = 50 ∨ t = 51 ∨ t = 52 ∨ t = 53 ∨ t = 54 ∨ t = 55 ∨ t = 56 ∨ t = 57 ∨ t = 58 ∨ t = 59 ∨ t = 60 ∨ t = 61 ∨ t = 62 ∨ t = 63 ∨ t = 64 ∨ t = 65 ∨ t = 66 ∨ t = 67 ∨ t = 68 ∨ t = 69 ∨ t = 70 ∨ t = 71 ∨ t = 72 ∨ t = 73 ∨ t = 6 := by simpa using ht
          rcases h8 with rfl | rfl | rfl | rfl | rfl | rfl | rfl | rfl | rfl | rfl | rfl | rfl | rfl | rfl | rfl | rfl | rfl | rfl | rfl | rfl | rfl | rfl | rfl | rfl | rfl | rfl | rfl | rfl | rfl | rfl | rfl | rfl | rfl | rfl | rfl | rfl | rfl | rfl | rfl | rfl | rfl <;> exact Nat.lt_of_lt_of_le (by decide : _ < 74) (Nat.le_refl 74))
        rw [List.foldl_cons, List.foldl_cons, List.foldl_cons, List.foldl_cons, List.foldl_cons, List.foldl_cons, List.foldl_cons, List.foldl_cons, List.foldl_cons, List.foldl_cons, List.foldl_cons, List.foldl_cons, List.foldl_cons, List.foldl_cons, List.foldl_cons, List.foldl_cons, List.foldl_cons, List.foldl_cons, List.foldl_cons, List.foldl_cons, List.foldl_cons, List.foldl_cons, List.foldl_cons, List.foldl_cons, List.foldl_cons, List.foldl_cons, List.foldl_cons, List.foldl_cons, List.foldl_cons, List.foldl_cons, List.foldl_cons, List.foldl_cons, List.foldl_cons, List.foldl_cons, List.foldl_cons, List.foldl_cons, List.foldl_cons, List.foldl_cons, List.foldl_cons, List.foldl_cons, List.foldl_cons, List.foldl_nil] at hac
        obtain ⟨y40⟩ : sl ac 6 = .bool true ∧ True := ⟨hU 40 (by omega), trivial⟩
        rw [y40] at hac
        generalize sl ac 34 = x34 at hac
        generalize sl ac 35 = x35 at hac
        generalize sl ac 36 = x36 at hac
        generalize sl ac 37 = x37 at hac
        generalize sl ac 38 = x38 at hac
        generalize sl ac 39 = x39 at hac
        generalize sl ac 40 = x40 at hac
        generalize sl ac 41 = x41 at hac
        generalize sl ac 42 = x42 at hac
        generalize sl ac 43 = x43 at hac
        generalize sl ac 44 = x44 at hac
        generalize sl ac 45 = x45 at hac
        generalize sl ac 46 = x46 at hac
        generalize sl ac 47 = x47 at hac
        generalize sl ac 48 = x48 at hac
        generalize sl ac 49 = x49 at hac
        generalize sl ac 50 = x50 at hac
        generalize sl ac 51 = x51 at hac
        generalize sl ac 52 = x52 at hac
        generalize sl ac 53 = x53 at hac
        generalize sl ac 54 = x54 at hac
        generalize sl ac 55 = x55 at hac
        generalize sl ac 56 = x56 at hac
        generalize sl ac 57 = x57 at hac
        generalize sl ac 58 = x58 at hac
        generalize sl ac 59 = x59 at hac
        generalize sl ac 60 = x60 at hac
        generalize sl ac 61 = x61 at hac
        generalize sl ac 62 = x62 at hac
        generalize sl ac 63 = x63 at hac
        generalize sl ac 64 = x64 at hac
        generalize sl ac 65 = x65 at hac
        generalize sl ac 66 = x66 at hac
        generalize sl ac 67 = x67 at hac
        generalize sl ac 68 = x68 at hac
        generalize sl ac 69 = x69 at hac
        generalize sl ac 70 = x70 at hac
        generalize sl ac 71 = x71 at hac
        generalize sl ac 72 = x72 at hac
        generalize sl ac 73 = x73 at hac
        clear hA hs hU y40
        subst hac
        simp only [Act.put, List.setIfInBounds_toArray, List.set_cons_succ, List.set_cons_zero]
        go_wp2_with fail
        go_ret
        exact ⟨rfl, bstep HWU.out hB HWU.out.size⟩

end Go.Proofs.Ytnfmmgbghbaecaa
