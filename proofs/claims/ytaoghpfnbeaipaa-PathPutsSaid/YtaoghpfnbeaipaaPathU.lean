/-
  PathPuts: the law's contract.
-/
import Derived.Test.YtaoghpfnbeaipaaPathT
import Derived.Test.YtaoghpfnbeaipaaPathL
set_option linter.unusedVariables false
set_option linter.unusedSimpArgs false
namespace Go.Proofs.Ytaoghpfnbeaipaa
open Go.RowKit Go.Sort

theorem putR_sum (key : ByteArray) (y : T) : ∀ m : List (ByteArray × T), ((putR key y m).map fun p => p.2.size).sum ≤ (m.map fun p => p.2.size).sum + y.size
  | [] => by simp [putR]
  | p :: r => by
    rcases putR_cases p key with ⟨h, hn⟩ | h | ⟨h, hn⟩
    · rw [putR_lt h]
      have := putR_sum key y r
      simp only [List.map_cons, List.sum_cons]
      omega
    · rw [putR_eq h]
      simp only [List.map_cons, List.sum_cons]
      omega
    · rw [putR_gt h hn]
      simp only [List.map_cons, List.sum_cons]
      omega
theorem pairs_sum (t : T) : (t.pairs.map fun p => p.2.size).sum + 1 ≤ t.size := by
  obtain ⟨k, b, n, s, l, m⟩ := t
  rw [T.pairs, T.size_mk]
  split
  · omega
  · simp; omega
theorem put_size (t : T) (k : ByteArray) (y : T) : (t.put k y).size ≤ t.size + y.size := by
  rw [T.put, T.size_mk]
  have h1 := putR_sum k y t.pairs
  have h2 := pairs_sum t
  simp only [List.map_nil, List.sum_nil]
  omega
theorem putL_size : ∀ (l : List ByteArray) (t x : T), (putL l t x).size ≤ l.length * t.size + x.size
  | [], t, x => by simp [putL]
  | k :: r, t, x => by
    rw [putL]
    have h1 := put_size t k (putL r (inL k t) x)
    have h2 := putL_size r (inL k t) x
    have h3 := in_size k t
    have h4 : r.length * (inL k t).size ≤ r.length * t.size := Nat.mul_le_mul_left _ h3
    rw [List.length_cons, Nat.add_mul]
    omega

set_option maxRecDepth 100000 in
set_option maxHeartbeats 8000000 in
theorem pathPuts_any {w : World} {R1 R2 : Nat → Prop} {t x : T} {cs es : Array Value} {ks ms : List ByteArray} {sa sm : Option Addr} {sc sd : Nat} (h1 : Lies w R1 t cs) (h2 : Lies w R2 x es) (hS : SliceS w ks sa sc) (hM : SliceS w ms sm sd) :
    Calls Try.prog 12 #[.agg cs, .agg es, .slice sa ks.length sc, .slice sm ms.length sd] w fun e w' => e = .returned (.bool true) ∧ Below w.heap.size w w' := by
  have H1 := Lib.hid h1
  have H2 := Lib.hid h2
  have HS := Lib.hid hS
  have HM := Lib.hid hM
  have hkle := hS.le
  have hkbig := hS.big
  have hmle := hM.le
  have hmbig := hM.big
  obtain ⟨k, b, n, s, la, ll, lc, ma, ml, mc, rfl⟩ := h1.six
  obtain ⟨k2, b2, n2, s2, la2, ll2, lc2, ma2, ml2, mc2, rfl⟩ := h2.six
  have hb0 := ((Below.refl w.heap.size w).alloc (Nat.le_refl _) (.cells #[.int .i64 k, .bool b, .int .i64 n, .string s, .slice la ll lc, .slice ma ml mc] 25)).alloc (by simp) (.cells #[.int .i64 k2, .bool b2, .int .i64 n2, .string s2, .slice la2 ll2 lc2, .slice ma2 ml2 mc2] 25)
  have hsz : ((w.alloc (.cells #[.int .i64 k, .bool b, .int .i64 n, .string s, .slice la ll lc, .slice ma ml mc] 25)).alloc (.cells #[.int .i64 k2, .bool b2, .int .i64 n2, .string s2, .slice la2 ll2 lc2, .slice ma2 ml2 mc2] 25)).heap.size = w.heap.size + 2 := by simp
  have c1 : Box6 ((w.alloc (.cells #[.int .i64 k, .bool b, .int .i64 n, .string s, .slice la ll lc, .slice ma ml mc] 25)).alloc (.cells #[.int .i64 k2, .bool b2, .int .i64 n2, .string s2, .slice la2 ll2 lc2, .slice ma2 ml2 mc2] 25)) w.heap.size #[.int .i64 k, .bool b, .int .i64 n, .string s, .slice la ll lc, .slice ma ml mc] := (Box6.new w _ _).later ((Below.refl (w.heap.size + 1) _).alloc (by simp) _) (by omega)
  have c2 := Box6.new (w.alloc (.cells #[.int .i64 k, .bool b, .int .i64 n, .string s, .slice la ll lc, .slice ma ml mc] 25)) #[.int .i64 k2, .bool b2, .int .i64 n2, .string s2, .slice la2 ll2 lc2, .slice ma2 ml2 mc2] 25
  rw [World.size_alloc] at c2
  clear h1 h2 hS hM
  go_enter Try.func12, Try.ntmps12
  go_upto_region 1 with fail
  generalize (w.alloc (.cells #[.int .i64 k, .bool b, .int .i64 n, .string s, .slice la ll lc, .slice ma ml mc] 25)).alloc (.cells #[.int .i64 k2, .bool b2, .int .i64 n2, .string s2, .slice la2 ll2 lc2, .slice ma2 ml2 mc2] 25) = v at hb0 hsz c1 c2 ⊢
  have HV := Lib.hid hb0
  have C1 := Lib.hid c1
  have C2 := Lib.hid c2
  have hv2 : w.heap.size + 2 ≤ v.heap.size := by omega
  obtain ⟨x0, x1, x2, x3, x4, x5⟩ := c1.six
  obtain ⟨y0, y1, y2, y3, y4, y5⟩ := c2.six
  have hr := right_any (two_values (H1.out.later hb0) (H2.out.later hb0)) _ (Below.refl _ _)
  have HR := Lib.hid hr
  have hal := (Below.refl v.heap.size v).alloc (Nat.le_refl _) (.cells #[.int .i64 k, .bool b, .int .i64 n, .string s, .slice la ll lc, .slice ma ml mc, .int .i64 k2, .bool b2, .int .i64 n2, .string s2, .slice la2 ll2 lc2, .slice ma2 ml2 mc2] 25)
  have HAL := Lib.hid hal
  clear hb0 hsz c1 c2 hr hal
  have AW : Hid (∀ w1, Below v.heap.size v w1 → Calls Try.prog 49 #[] w1 fun e w' => e = .returned (.bool true) ∧ Below v.heap.size v w') := fun w1 hb => (l2awake_any w1).mono fun e w' ⟨he, hw⟩ => ⟨he, bstep hb hw hb.size⟩
  cases hg : [t, x].all T.good with
  | false =>
    rw [hg] at HR
    clear hg
    go_wp2_with (first
      | (go_at_call 30; refine HR.out.mono ?_; rintro e w2 ⟨rfl, hb2⟩; have HB2 := Lib.hid (bstep HAL.out hb2 HAL.out.size); clear hb2)
      | (go_at_call 49; refine (AW.out _ HB2.out).mono ?_; rintro e w3 ⟨rfl, hb3⟩))
    go_ret
    exact ⟨rfl, bstep HV.out hb3 HV.out.size⟩
  | true =>
    have hgt : t.good = true := by simp at hg; exact hg.1
    rw [hg] at HR
    have hgx : x.good = true := by simp at hg; exact hg.2
    have HGT := Lib.hid hgt
    have HGX := Lib.hid hgx
    clear hg hgt hgx
    cases hst : stepsB ks with
    | false =>
      have ST : Hid (∀ w1, Below w.heap.size w w1 → Calls Try.prog 48 #[.slice sa ks.length sc] w1 fun e w' => e = .returned (.bool false) ∧ w' = w1) := fun w1 hb => by have := l2Steps_any HS.out w1 hb; rw [hst] at this; exact this
      clear hst
      go_wp2_with (first
        | (go_at_call 30; refine HR.out.mono ?_; rintro e w2 ⟨rfl, hb2⟩; have HB2 := Lib.hid (bstep HAL.out hb2 HAL.out.size); clear hb2)
        | ((with_reducible refine (ST.out _ (bstep HV.out HB2.out HV.out.size)).mono ?_); rintro e wq ⟨rfl, hwq⟩; have hwq2 := hwq.symm; subst hwq2)
        | (go_at_call 49; refine (AW.out _ HB2.out).mono ?_; rintro e w3 ⟨rfl, hb3⟩))
      go_ret
      exact ⟨rfl, bstep HV.out hb3 HV.out.size⟩
    | true =>
      have ST : Hid (∀ w1, Below w.heap.size w w1 → Calls Try.prog 48 #[.slice sa ks.length sc] w1 fun e w' => e = .returned (.bool true) ∧ w' = w1) := fun w1 hb => by have := l2Steps_any HS.out w1 hb; rw [hst] at this; exact this
      have HST := Lib.hid hst
      clear hst
      cases hsm : stepsB ms with
      | false =>
        have SM : Hid (∀ w1, Below w.heap.size w w1 → Calls Try.prog 48 #[.slice sm ms.length sd] w1 fun e w' => e = .returned (.bool false) ∧ w' = w1) := fun w1 hb => by have := l2Steps_any HM.out w1 hb; rw [hsm] at this; exact this
        clear hsm
        go_wp2_with (first
          | (go_at_call 30; refine HR.out.mono ?_; rintro e w2 ⟨rfl, hb2⟩; have HB2 := Lib.hid (bstep HAL.out hb2 HAL.out.size); clear hb2)
          | ((with_reducible refine (ST.out _ (bstep HV.out HB2.out HV.out.size)).mono ?_); rintro e wq ⟨rfl, hwq⟩; have hwq2 := hwq.symm; subst hwq2)
          | ((with_reducible refine (SM.out _ (bstep HV.out HB2.out HV.out.size)).mono ?_); rintro e wq ⟨rfl, hwq⟩; have hwq2 := hwq.symm; subst hwq2)
          | (go_at_call 49; refine (AW.out _ HB2.out).mono ?_; rintro e w3 ⟨rfl, hb3⟩))
        go_ret
        exact ⟨rfl, bstep HV.out hb3 HV.out.size⟩
      | true =>
        have SM : Hid (∀ w1, Below w.heap.size w w1 → Calls Try.prog 48 #[.slice sm ms.length sd] w1 fun e w' => e = .returned (.bool true) ∧ w' = w1) := fun w1 hb => by have := l2Steps_any HM.out w1 hb; rw [hsm] at this; exact this
        have HSM := Lib.hid hsm
        clear hsm
        by_cases hlen : ks.length = 0
        case pos =>
          have hk0 : ((ks.length : Int) == 0) = true := by rw [hlen]; rfl
          clear hlen
          go_wp2_with (first
            | (go_at_call 30; refine HR.out.mono ?_; rintro e w2 ⟨rfl, hb2⟩; have HB2 := Lib.hid (bstep HAL.out hb2 HAL.out.size); clear hb2)
            | ((with_reducible refine (ST.out _ (bstep HV.out HB2.out HV.out.size)).mono ?_); rintro e wq ⟨rfl, hwq⟩; have hwq2 := hwq.symm; subst hwq2)
            | ((with_reducible refine (SM.out _ (bstep HV.out HB2.out HV.out.size)).mono ?_); rintro e wq ⟨rfl, hwq⟩; have hwq2 := hwq.symm; subst hwq2)
            | (go_at_call 49; refine (AW.out _ HB2.out).mono ?_; rintro e w3 ⟨rfl, hb3⟩))
          go_ret
          exact ⟨rfl, bstep HV.out hb3 HV.out.size⟩
        case neg =>
          have hk0 : ((ks.length : Int) == 0) = false := by rw [beq_eq_false_iff_ne]; omega
          have HKN : Hid (ks ≠ []) := fun e => hlen (by rw [e]; rfl)
          clear hlen
          have hlt : t.size ≤ 6000 := by
            have h := HGT.out
            unfold T.good at h
            simp only [Bool.and_eq_true] at h
            exact T.light_size h.1
          have hk14 : ks.length ≤ 14 := by
            have h := HST.out
            unfold stepsB at h
            simp only [Bool.and_eq_true, decide_eq_true_eq] at h
            exact h.2
          have PU1 : Hid (∀ w', Below w.heap.size w w' → Calls Try.prog 52 #[.agg #[.int .i64 k, .bool b, .int .i64 n, .string s, .slice la ll lc, .slice ma ml mc], .agg #[.int .i64 k2, .bool b2, .int .i64 n2, .string s2, .slice la2 ll2 lc2, .slice ma2 ml2 mc2], .slice sa ks.length sc] w' (PutIn w' (putL ks t x))) := fun w' hw' => pPut_any H1.out H2.out HS.out (by omega) (by omega) w' hw'
          have hlx : x.size ≤ 6000 := by
            have h := HGX.out
            unfold T.good at h
            simp only [Bool.and_eq_true] at h
            exact T.light_size h.1
          have HPS : Hid ((putL ks t x).size ≤ 1000000) := by
            have h1 := putL_size ks t x
            have h2 : ks.length * t.size ≤ 14 * 6000 := Nat.mul_le_mul hk14 hlt
            exact Nat.le_trans h1 (by omega)
          obtain ⟨p, hp⟩ : ∃ p, putL ks t x = p := ⟨_, rfl⟩
          rw [hp] at PU1 HPS
          have GA : Hid (atL ks p = some x) := by show _ = _; rw [← hp]; exact at_put ks t x
          have GD : Hid (atL ks (dropAt ks p) = none) := at_dropAt ks p HKN.out
          have GQ : Hid (atL ks (pruneAt ks p) = none) := at_pruneAt ks p HKN.out
          have GO : Hid (beginsB ks ms = false → beginsB ms ks = false → atL ms p = atL ms t) := fun ha hb => by rw [← hp]; exact at_put_other ks ms t x ha hb
          have hk6 : ks.length ≤ 1000000 := by omega
          clear hp hlt hk14 hlx
          go_upto_region 3 with (first
            | (go_at_call 30; refine HR.out.mono ?_; rintro e w2 ⟨rfl, hb2⟩; have HB2 := Lib.hid (bstep HAL.out hb2 HAL.out.size); clear hb2)
            | ((with_reducible refine (ST.out _ (bstep HV.out HB2.out HV.out.size)).mono ?_); rintro e wq ⟨rfl, hwq⟩; have hwq2 := hwq.symm; subst hwq2)
            | ((with_reducible refine (SM.out _ (bstep HV.out HB2.out HV.out.size)).mono ?_); rintro e wq ⟨rfl, hwq⟩; have hwq2 := hwq.symm; subst hwq2))
          have HBW := Lib.hid (bstep HV.out HB2.out HV.out.size)
          have hs2 := HB2.out.size
          clear x0 x1 x2 x3 x4 x5 y0 y1 y2 y3 y4 y5
          obtain ⟨x0, x1, x2, x3, x4, x5⟩ := (C1.out.later HB2.out (by omega)).six
          obtain ⟨y0, y1, y2, y3, y4, y5⟩ := (C2.out.later HB2.out (by omega)).six
          go_upto_region 4 with (go_at_call 52; refine (PU1.out w2 HBW.out).mono ?_; rintro e w3 ⟨ds, rfl, hL, hb⟩; obtain ⟨d0, d1, d2, d3, d4, d4l, d4c, d5, d5l, d5c, rfl⟩ := hL.six; have HL3 := Lib.hid hL; have HB3 := Lib.hid hb; clear hL hb)
          have b9 := Box6.new w3 #[.int .i64 d0, .bool d1, .int .i64 d2, .string d3, .slice d4 d4l d4c, .slice d5 d5l d5c] 25
          have hb3 := HB3.out.alloc HB3.out.size (.cells #[.int .i64 d0, .bool d1, .int .i64 d2, .string d3, .slice d4 d4l d4c, .slice d5 d5l d5c] 25)
          have hl3 := (HL3.out.later ((Below.refl w3.heap.size w3).alloc (Nat.le_refl _) (.cells #[.int .i64 d0, .bool d1, .int .i64 d2, .string d3, .slice d4 d4l d4c, .slice d5 d5l d5c] 25))).weaken (R' := fun _ => True) fun _ _ => trivial
          have hs3 : w3.heap.size < (w3.alloc (.cells #[.int .i64 d0, .bool d1, .int .i64 d2, .string d3, .slice d4 d4l d4c, .slice d5 d5l d5c] 25)).heap.size := by simp
          generalize w3.alloc (.cells #[.int .i64 d0, .bool d1, .int .i64 d2, .string d3, .slice d4 d4l d4c, .slice d5 d5l d5c] 25) = v3 at b9 hb3 hl3 hs3 ⊢
          have B9 := Lib.hid b9
          have HP3 := Lib.hid hl3
          have HS3 := Lib.hid hs3
          have HV3 := Lib.hid (bstep HB2.out hb3 HB2.out.size)
          have HW3 := Lib.hid (bstep HBW.out hb3 HBW.out.size)
          clear x0 x1 x2 x3 x4 x5 y0 y1 y2 y3 y4 y5
          obtain ⟨z0, z1, z2, z3, z4, z5⟩ := b9.six
          clear b9 hb3 hl3 hs3
          have GP := Lib.hid (fun w' (hw' : Below v3.heap.size v3 w') => pGet_any HP3.out (HS.out.later HW3.out) w' hw')
          have GP1 : Hid (∀ w', Below v3.heap.size v3 w' → Calls Try.prog 50 #[.agg #[.int .i64 d0, .bool d1, .int .i64 d2, .string d3, .slice d4 d4l d4c, .slice d5 d5l d5c], .slice sa ks.length sc] w' (Got w' (some x))) := fun w' hw' => by have := GP.out w' hw'; rw [GA.out] at this; exact this
          go_upto_region 5 with (go_at_call 50; refine (GP1.out v3 (Below.refl _ _)).mono ?_; rintro e w4 ⟨gs, rfl, hL, hb⟩; obtain ⟨h0, h1, h2, h3, h4, h4l, h4c, h5, h5l, h5c, rfl⟩ := hL.six; have HL4 := Lib.hid (show Lies w4 _ x _ from hL); have HB4 := Lib.hid hb; clear hL hb)
          have b10 := Box6.new w4 #[.int .i64 h0, .bool h1, .int .i64 h2, .string h3, .slice h4 h4l h4c, .slice h5 h5l h5c] 25
          have hb4 := HB4.out.alloc HB4.out.size (.cells #[.int .i64 h0, .bool h1, .int .i64 h2, .string h3, .slice h4 h4l h4c, .slice h5 h5l h5c] 25)
          have hl4 := HL4.out.later ((Below.refl w4.heap.size w4).alloc (Nat.le_refl _) (.cells #[.int .i64 h0, .bool h1, .int .i64 h2, .string h3, .slice h4 h4l h4c, .slice h5 h5l h5c] 25))
          generalize w4.alloc (.cells #[.int .i64 h0, .bool h1, .int .i64 h2, .string h3, .slice h4 h4l h4c, .slice h5 h5l h5c] 25) = v4 at b10 hb4 hl4 ⊢
          have HV4 := Lib.hid hb4
          have HX4 := Lib.hid hl4
          have HW4 := Lib.hid (bstep HW3.out hb4 HW3.out.size)
          obtain ⟨g0, g1, g2, g3, g4, g5⟩ := b10.six
          have hs4 := hb4.size
          have hs3' := HV3.out.size
          obtain ⟨y0, y1, y2, y3, y4, y5⟩ := (C2.out.later (bstep HV3.out hb4 HV3.out.size) (by omega)).six
          have hsame := rSame_any HX4.out (H2.out.later HW4.out) v4 (Below.refl _ _)
          rw [T.same_self] at hsame
          have HSAME := Lib.hid hsame
          clear b10 hb4 hl4 hsame z0 z1 z2 z3 z4 z5
          go_upto_region 7 with (go_at_call 25; refine HSAME.out.mono ?_; rintro e w5 ⟨rfl, hb⟩; have HB5 := Lib.hid (bstep HV4.out hb HV4.out.size); clear hb)
          clear g0 g1 g2 g3 g4 g5 y0 y1 y2 y3 y4 y5
          obtain ⟨z0, z1, z2, z3, z4, z5⟩ := (B9.out.later HB5.out HS3.out).six
          have DR : Hid (∀ w', Below v3.heap.size v3 w' → Calls Try.prog 54 #[.agg #[.int .i64 d0, .bool d1, .int .i64 d2, .string d3, .slice d4 d4l d4c, .slice d5 d5l d5c], .slice sa ks.length sc] w' (PutIn w' (dropAt ks p))) := fun w' hw' => pDrop_any HP3.out (HS.out.later HW3.out) hk6 HPS.out w' hw'
          have QR : Hid (∀ w', Below v3.heap.size v3 w' → Calls Try.prog 56 #[.agg #[.int .i64 d0, .bool d1, .int .i64 d2, .string d3, .slice d4 d4l d4c, .slice d5 d5l d5c], .slice sa ks.length sc] w' (PutIn w' (pruneAt ks p))) := fun w' hw' => pPrune_any HP3.out (HS.out.later HW3.out) hk6 HPS.out w' hw'
          go_upto_region 8 with (first
            | (go_at_call 54; refine (DR.out _ HB5.out).mono ?_; rintro e w6 ⟨js, rfl, hL, hb⟩; obtain ⟨j0, j1, j2, j3, j4, j4l, j4c, j5, j5l, j5c, rfl⟩ := hL.six; have HL6 := Lib.hid hL; have HB6 := Lib.hid (bstep HB5.out hb HB5.out.size); clear hL hb)
            | (go_at_call 50
               have hz := pGet_any HL6.out (HS.out.later (bstep HW3.out HB6.out HW3.out.size)) w6 (Below.refl _ _)
               rw [GD.out] at hz
               refine hz.mono ?_
               rintro e w7 ⟨us, rfl, hL, hb⟩
               obtain ⟨u0, u1, u2, u3, u4, u4l, u4c, u5, u5l, u5c, rfl⟩ := hL.six
               have HB7 := Lib.hid (bstep HB6.out hb HB6.out.size)
               clear hL hb))
          have hb7 := HB7.out.alloc HB7.out.size (.cells #[.int .i64 u0, .bool u1, .int .i64 u2, .string u3, .slice u4 u4l u4c, .slice u5 u5l u5c] 25)
          generalize w7.alloc (.cells #[.int .i64 u0, .bool u1, .int .i64 u2, .string u3, .slice u4 u4l u4c, .slice u5 u5l u5c] 25) = v7 at hb7 ⊢
          have HV7 := Lib.hid hb7
          clear hb7 z0 z1 z2 z3 z4 z5
          obtain ⟨z0, z1, z2, z3, z4, z5⟩ := (B9.out.later HV7.out HS3.out).six
          go_upto_region 9 with (first
            | (go_at_call 56; refine (QR.out _ HV7.out).mono ?_; rintro e w8 ⟨qs, rfl, hL, hb⟩; obtain ⟨q0, q1, q2, q3, q4, q4l, q4c, q5, q5l, q5c, rfl⟩ := hL.six; have HL8 := Lib.hid hL; have HB8 := Lib.hid (bstep HV7.out hb HV7.out.size); clear hL hb)
            | (go_at_call 50
               have hz := pGet_any HL8.out (HS.out.later (bstep HW3.out HB8.out HW3.out.size)) w8 (Below.refl _ _)
               rw [GQ.out] at hz
               refine hz.mono ?_
               rintro e w9 ⟨rs, rfl, hL, hb⟩
               obtain ⟨r0, r1, r2, r3, r4, r4l, r4c, r5, r5l, r5c, rfl⟩ := hL.six
               have HB9 := Lib.hid (bstep HB8.out hb HB8.out.size)
               clear hL hb))
          have hb9 := HB9.out.alloc HB9.out.size (.cells #[.int .i64 r0, .bool r1, .int .i64 r2, .string r3, .slice r4 r4l r4c, .slice r5 r5l r5c] 25)
          generalize w9.alloc (.cells #[.int .i64 r0, .bool r1, .int .i64 r2, .string r3, .slice r4 r4l r4c, .slice r5 r5l r5c] 25) = v9 at hb9 ⊢
          have HV9 := Lib.hid hb9
          clear hb9 z0 z1 z2 z3 z4 z5
          have HW9 := Lib.hid (bstep HW3.out HV9.out HW3.out.size)
          have BG1 := Lib.hid (fun w' (hw' : Below w.heap.size w w') => pBegins_any HS.out HM.out w' hw')
          have BG2 := Lib.hid (fun w' (hw' : Below w.heap.size w w') => pBegins_any HM.out HS.out w' hw')
          cases hc1 : beginsB ks ms with
          | true =>
            rw [hc1] at BG1
            clear hc1
            go_wp2_with (first
              | ((with_reducible refine (BG1.out v9 HW9.out).mono ?_); rintro e wa ⟨rfl, hb⟩; have HBa := Lib.hid (bstep HW9.out hb HW9.out.size); clear hb)
              | (go_at_call 49; refine (l2awake_any wa).mono ?_; rintro e wb ⟨rfl, hb⟩))
            go_ret
            exact ⟨rfl, bstep HBa.out hb HBa.out.size⟩
          | false =>
            rw [hc1] at BG1
            cases hc2 : beginsB ms ks with
            | true =>
              rw [hc2] at BG2
              clear hc1 hc2
              go_wp2_with (first
                | ((with_reducible refine (BG1.out v9 HW9.out).mono ?_); rintro e wa ⟨rfl, hb⟩; have HBa := Lib.hid (bstep HW9.out hb HW9.out.size); clear hb)
                | ((with_reducible refine (BG2.out wa HBa.out).mono ?_); rintro e wc ⟨rfl, hb⟩; have HBc := Lib.hid (bstep HBa.out hb HBa.out.size); clear hb)
                | (go_at_call 49; refine (l2awake_any wc).mono ?_; rintro e wb ⟨rfl, hb⟩))
              go_ret
              exact ⟨rfl, bstep HBc.out hb HBc.out.size⟩
            | false =>
              rw [hc2] at BG2
              have HAT := Lib.hid (GO.out hc1 hc2)
              clear hc1 hc2
              go_upto_region 13 with (first
                | ((with_reducible refine (BG1.out v9 HW9.out).mono ?_); rintro e wa ⟨rfl, hb⟩; have HBa := Lib.hid (bstep HV9.out hb HV9.out.size); have HWa := Lib.hid (bstep HW9.out hb HW9.out.size); clear hb)
                | ((with_reducible refine (BG2.out wa HWa.out).mono ?_); rintro e wc ⟨rfl, hb⟩; have HBc := Lib.hid (bstep HBa.out hb HBa.out.size); clear hb))
              have hsc := HBc.out.size
              have hs3v := HV3.out.size
              obtain ⟨x0, x1, x2, x3, x4, x5⟩ := (C1.out.later (bstep HV3.out HBc.out HV3.out.size) (by omega)).six
              have PG := Lib.hid (fun w' (hw' : Below w.heap.size w w') => pGet_any H1.out HM.out w' hw')
              go_upto_region 14 with (go_at_call 50; refine (PG.out wc (bstep HW3.out HBc.out HW3.out.size)).mono ?_; rintro e wd ⟨avs, rfl, hL, hb⟩; obtain ⟨a0, a1, a2, a3, a4, a4l, a4c, a5, a5l, a5c, rfl⟩ := hL.six; have HLd := Lib.hid hL; have HBd := Lib.hid (bstep HBc.out hb HBc.out.size); clear hL hb)
              have bd := Box6.new wd #[.int .i64 a0, .bool a1, .int .i64 a2, .string a3, .slice a4 a4l a4c, .slice a5 a5l a5c] 25
              have hbd := HBd.out.alloc HBd.out.size (.cells #[.int .i64 a0, .bool a1, .int .i64 a2, .string a3, .slice a4 a4l a4c, .slice a5 a5l a5c] 25)
              have hld := (HLd.out.later ((Below.refl wd.heap.size wd).alloc (Nat.le_refl _) (.cells #[.int .i64 a0, .bool a1, .int .i64 a2, .string a3, .slice a4 a4l a4c, .slice a5 a5l a5c] 25))).weaken (R' := fun _ => True) fun _ _ => trivial
              have hsd : wd.heap.size < (wd.alloc (.cells #[.int .i64 a0, .bool a1, .int .i64 a2, .string a3, .slice a4 a4l a4c, .slice a5 a5l a5c] 25)).heap.size := by simp
              generalize wd.alloc (.cells #[.int .i64 a0, .bool a1, .int .i64 a2, .string a3, .slice a4 a4l a4c, .slice a5 a5l a5c] 25) = vd at bd hbd hld hsd ⊢
              have HVd := Lib.hid hbd
              have HXd := Lib.hid hld
              have Bd := Lib.hid bd
              have HSd := Lib.hid hsd
              clear bd hbd hld hsd x0 x1 x2 x3 x4 x5
              obtain ⟨z0, z1, z2, z3, z4, z5⟩ := (B9.out.later HVd.out HS3.out).six
              have GM : Hid (∀ w', Below v3.heap.size v3 w' → Calls Try.prog 50 #[.agg #[.int .i64 d0, .bool d1, .int .i64 d2, .string d3, .slice d4 d4l d4c, .slice d5 d5l d5c], .slice sm ms.length sd] w' (Got w' (atL ms t))) := fun w' hw' => by have := pGet_any HP3.out (HM.out.later HW3.out) w' hw'; rw [HAT.out] at this; exact this
              go_upto_region 15 with (go_at_call 50; refine (GM.out vd HVd.out).mono ?_; rintro e we ⟨bvs, rfl, hL, hb⟩; obtain ⟨bb0, bb1, bb2, bb3, bb4, bb4l, bb4c, bb5, bb5l, bb5c, rfl⟩ := hL.six; have HLe := Lib.hid hL; have HBe := Lib.hid hb; clear hL hb)
              have be := Box6.new we #[.int .i64 bb0, .bool bb1, .int .i64 bb2, .string bb3, .slice bb4 bb4l bb4c, .slice bb5 bb5l bb5c] 25
              have hbe := HBe.out.alloc HBe.out.size (.cells #[.int .i64 bb0, .bool bb1, .int .i64 bb2, .string bb3, .slice bb4 bb4l bb4c, .slice bb5 bb5l bb5c] 25)
              have hle := (HLe.out.later ((Below.refl we.heap.size we).alloc (Nat.le_refl _) (.cells #[.int .i64 bb0, .bool bb1, .int .i64 bb2, .string bb3, .slice bb4 bb4l bb4c, .slice bb5 bb5l bb5c] 25))).weaken (R' := fun _ => True) fun _ _ => trivial
              have hse : we.heap.size < (we.alloc (.cells #[.int .i64 bb0, .bool bb1, .int .i64 bb2, .string bb3, .slice bb4 bb4l bb4c, .slice bb5 bb5l bb5c] 25)).heap.size := by simp
              generalize we.alloc (.cells #[.int .i64 bb0, .bool bb1, .int .i64 bb2, .string bb3, .slice bb4 bb4l bb4c, .slice bb5 bb5l bb5c] 25) = ve at be hbe hle hse ⊢
              have HVe := Lib.hid hbe
              have Be := Lib.hid be
              have HSe := Lib.hid hse
              have HXe := Lib.hid hle
              have HZe := Lib.hid (bstep HVd.out hbe HVd.out.size)
              have Bd2 := Lib.hid (Bd.out.later hbe HSd.out)
              have hdsz := hbe.size
              have HXd2 := Lib.hid (HXd.out.later hbe)
              generalize (atL ms t).isSome = bq
              clear be hbe hle hse z0 z1 z2 z3 z4 z5
              have FIN : Hid (∀ w1, Below ve.heap.size ve w1 → Calls Try.prog 25 #[.agg #[.int .i64 a0, .bool a1, .int .i64 a2, .string a3, .slice a4 a4l a4c, .slice a5 a5l a5c], .agg #[.int .i64 bb0, .bool bb1, .int .i64 bb2, .string bb3, .slice bb4 bb4l bb4c, .slice bb5 bb5l bb5c]] w1 fun e w' => e = .returned (.bool true) ∧ Below ve.heap.size ve w') := fun w1 hb => by
                have := rSame_any (HXd2.out.later hb) (HXe.out.later hb) w1 (Below.refl _ _)
                rw [T.same_self] at this
                exact this.mono fun e w' ⟨he, hw⟩ => ⟨he, bstep hb hw hb.size⟩
              have AWF : Hid (Calls Try.prog 49 #[] ve fun e w' => e = .returned (.bool true) ∧ Below ve.heap.size ve w') := l2awake_any ve
              have hse2 := HSe.out
              have hsd2 := HSd.out
              go_upto_region 15 with fail
              cases bq <;>
              (go_wp2_with (first
                | (go_at_call 49; refine AWF.out.mono ?_; rintro e wf ⟨rfl, hb⟩; obtain ⟨x0, x1, x2, x3, x4, x5⟩ := (Bd2.out.later hb (by omega)).six; obtain ⟨y0, y1, y2, y3, y4, y5⟩ := (Be.out.later hb (by omega)).six; have HBF := Lib.hid hb; clear hb)
                | (go_at_call 25; refine (FIN.out _ HBF.out).mono ?_; rintro e wg ⟨rfl, hb2⟩))
               go_ret
               exact ⟨rfl, bstep HW3.out (bstep HZe.out hb2 HZe.out.size) HW3.out.size⟩)

end Go.Proofs.Ytaoghpfnbeaipaa
