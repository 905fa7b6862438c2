/-
  ObjectReads: the law's contract.
-/
import Derived.Test.YtbmlmcoepmbelaaDoorObjH
import Derived.Test.YtbmlmcoepmbelaaDoorObjT
import Derived.Test.YtbmlmcoepmbelaaDoorObjA
import Derived.Test.YtbmlmcoepmbelaaDoorRSame
import Derived.Test.YtbmlmcoepmbelaaDoorSpecsS
set_option linter.unusedVariables false
set_option linter.unusedSimpArgs false
namespace Go.Proofs.YtbmlmcoepmbelaaDoor
open Go.RowKit Go.Sort

theorem right_sizes {k p n : ByteArray} (h : rightO k p n = true) : k.size ≤ 64 ∧ p.size ≤ 64 ∧ n.size ≤ 64 := by
  unfold rightO at h
  simp only [Bool.and_eq_true] at h
  exact ⟨word_size h.1, word_size h.2.1, word_size h.2.2⟩
theorem key_size (k p n : ByteArray) : (keyO k p n).size = k.size + p.size + n.size + 2 := by
  rw [Lib.size_eq, key_list, Lib.size_eq, Lib.size_eq, Lib.size_eq]
  simp only [List.length_append, List.length_cons]
  omega
/-- What is needed of a document's object. -/
theorem of_facts (t : T) : (ofO t).c = 0 → rightO (ofO t).k (ofO t).p (ofO t).n = true ∧ rHook (ofO t).u = hookO (ofO t).u := fun h => by
  obtain ⟨h1, h2, h3⟩ := of_good h
  rw [h3]
  exact ⟨h2, good_hook (check_parts h1)⟩

set_option maxRecDepth 100000 in
set_option maxHeartbeats 8000000 in
theorem objectReads_any {w : World} {R : Nat → Prop} {t : T} {cs : Array Value} (h : Lies w R t cs) (s : ByteArray) (hs47 : s.size ≤ 140737488355328) (m : Int) (hm : w.cell? ⟨1, 0, none⟩ = some (.int .i64 m)) (h0 : 1 < w.heap.size) (hw : RankTab w) :
    Calls Tryd.prog 3 #[.agg cs, .string s] w fun e w' => e = .returned (.bool true) ∧ Below w.heap.size w w' := by
  obtain ⟨c0, c1, c2, c3, c4, c4l, c4c, c5, c5l, c5c, rfl⟩ := h.six
  have hlt := hw.lt
  have hb1 := (Below.refl w.heap.size w).alloc (Nat.le_refl _) (.cells #[.int .i64 c0, .bool c1, .int .i64 c2, .string c3, .slice c4 c4l c4c, .slice c5 c5l c5c] 25)
  have b1 := Box6.new w #[.int .i64 c0, .bool c1, .int .i64 c2, .string c3, .slice c4 c4l c4c, .slice c5 c5l c5c] 25
  have hz1 : w.heap.size < (w.alloc (.cells #[.int .i64 c0, .bool c1, .int .i64 c2, .string c3, .slice c4 c4l c4c, .slice c5 c5l c5c] 25)).heap.size := by simp
  have MX : Hid (∀ w', Below w.heap.size w w' → w'.cell? ⟨1, 0, none⟩ = some (.int .i64 m)) := fun w' hb => (hb.cell (p := ⟨1, 0, none⟩) h0).trans hm
  have RT : Hid (∀ w', Below w.heap.size w w' → RankTab w') := fun w' hb => hw.later hb hlt
  have AW : Hid (∀ w', Below w.heap.size w w' → Calls Tryd.prog 7 #[] w' fun e w2 => e = .returned (.bool true) ∧ Below w'.heap.size w' w2) := fun w' hb => l12awake_any w' (hw.later hb hlt)
  have H := Lib.hid h
  have HB1 := Lib.hid hb1
  have BC := Lib.hid b1
  have HZ1 := Lib.hid hz1
  have LI := Lib.hid (light_any (h.later hb1) _ (Below.refl _ _))
  have TL := Lib.hid (fun hl => T.light_size (t := t) hl)
  obtain ⟨x0, x1, x2, x3, x4, x5⟩ := b1.six
  clear hb1 b1 h hm hw hz1
  go_enter Tryd.func3, Tryd.ntmps3
  go_upto_region 1 with fail
  generalize w.alloc (.cells #[.int .i64 c0, .bool c1, .int .i64 c2, .string c3, .slice c4 c4l c4c, .slice c5 c5l c5c] 25) = v at *
  cases hl : t.light with
  | false =>
    rw [hl] at LI
    clear hl TL
    go_upto_region 2 with (go_at_call 6; refine LI.out.mono ?_; rintro e w2 ⟨rfl, hb2⟩; have HB2 := Lib.hid (bstep HB1.out hb2 HB1.out.size); clear hb2)
    go_wp2_with (go_at_call 7; refine (AW.out _ HB2.out).mono ?_; rintro e w3 ⟨rfl, hb3⟩; have HB3 := Lib.hid hb3; clear hb3)
    go_ret
    exact ⟨rfl, bstep HB2.out HB3.out HB2.out.size⟩
  | true =>
    rw [hl] at LI
    have hsz := TL.out hl
    clear hl TL
    by_cases hs : s.size ≤ 500
    case neg =>
      have hg : decide ((500 : Int) < (s.size : Int)) = true := decide_eq_true (by omega)
      go_upto_region 2 with (go_at_call 6; refine LI.out.mono ?_; rintro e w2 ⟨rfl, hb2⟩; have HB2 := Lib.hid (bstep HB1.out hb2 HB1.out.size); clear hb2)
      go_wp2_with (go_at_call 7; refine (AW.out _ HB2.out).mono ?_; rintro e w3 ⟨rfl, hb3⟩; have HB3 := Lib.hid hb3; clear hb3)
      go_ret
      exact ⟨rfl, bstep HB2.out HB3.out HB2.out.size⟩
    have hg : decide ((500 : Int) < (s.size : Int)) = false := decide_eq_false (by omega)
    go_upto_region 3 with (go_at_call 6; refine LI.out.mono ?_; rintro e w2 ⟨rfl, hb2⟩; have HB2 := Lib.hid (bstep HB1.out hb2 HB1.out.size); have HV2 := Lib.hid hb2; clear hb2)
    clear x0 x1 x2 x3 x4 x5 hg
    have BC2 := Lib.hid (BC.out.later HV2.out HZ1.out)
    obtain ⟨x0, x1, x2, x3, x4, x5⟩ := BC2.out.six
    have hz2 := HV2.out.size
    have hz1 := HZ1.out
    have OF := Lib.hid (oOf_any H.out (by omega) w2 HB2.out)
    have FACT := Lib.hid (of_facts t)
    have RF0 := Lib.hid (fun w' (hw' : Below w.heap.size w w') => r12Of_any H.out (by omega) w' hw')
    rw [rof_of] at RF0
    generalize ofO t = r at *
    obtain ⟨rk, rp, rn, ru, rc⟩ := r
    go_upto_region 4 with (go_at_call 8; refine OF.out.mono ?_; rintro e w3 ⟨a0, a1, a2, a3, a4, a4l, a4c, a5, a5l, a5c, rfl, hl3, hb3⟩; have HL3 := Lib.hid hl3; have HB3 := Lib.hid hb3; clear hl3 hb3)
    have hb4 := HB3.out.alloc HB3.out.size (.cells #[.string rk, .string rp, .string rn, .int .i64 a0, .bool a1, .int .i64 a2, .string a3, .slice a4 a4l a4c, .slice a5 a5l a5c] 31)
    have b4 := Box9.new w3 #[.string rk, .string rp, .string rn, .int .i64 a0, .bool a1, .int .i64 a2, .string a3, .slice a4 a4l a4c, .slice a5 a5l a5c] 31
    have hl4 := HL3.out.later ((Below.refl w3.heap.size w3).alloc (Nat.le_refl _) (.cells #[.string rk, .string rp, .string rn, .int .i64 a0, .bool a1, .int .i64 a2, .string a3, .slice a4 a4l a4c, .slice a5 a5l a5c] 31))
    have hs4 : w3.heap.size < (w3.alloc (.cells #[.string rk, .string rp, .string rn, .int .i64 a0, .bool a1, .int .i64 a2, .string a3, .slice a4 a4l a4c, .slice a5 a5l a5c] 31)).heap.size := by simp
    clear x0 x1 x2 x3 x4 x5
    generalize w3.alloc (.cells #[.string rk, .string rp, .string rn, .int .i64 a0, .bool a1, .int .i64 a2, .string a3, .slice a4 a4l a4c, .slice a5 a5l a5c] 31) = v4 at *
    have hz4 := hb4.size
    obtain ⟨x0, x1, x2, x3, x4, x5⟩ := (BC2.out.later hb4 (by omega)).six
    have HB4 := Lib.hid (bstep HB2.out hb4 HB2.out.size)
    have BA := Lib.hid b4
    have LA := Lib.hid hl4
    clear hb4 b4 hl4
    go_upto_region 5 with (go_at_call 9; refine (RF0.out v4 HB4.out).mono ?_; rintro e w5 ⟨d0, d1, d2, d3, d4, d4l, d4c, d5, d5l, d5c, rfl, hl5, hb5⟩; have HL5 := Lib.hid hl5; have HB5 := Lib.hid hb5; clear hl5 hb5)
    have hb6 := HB5.out.alloc HB5.out.size (.cells #[.string rk, .string rp, .string rn, .int .i64 d0, .bool d1, .int .i64 d2, .string d3, .slice d4 d4l d4c, .slice d5 d5l d5c] 31)
    have b6 := Box9.new w5 #[.string rk, .string rp, .string rn, .int .i64 d0, .bool d1, .int .i64 d2, .string d3, .slice d4 d4l d4c, .slice d5 d5l d5c] 31
    have hl6 := HL5.out.later ((Below.refl w5.heap.size w5).alloc (Nat.le_refl _) (.cells #[.string rk, .string rp, .string rn, .int .i64 d0, .bool d1, .int .i64 d2, .string d3, .slice d4 d4l d4c, .slice d5 d5l d5c] 31))
    have hs6 : w5.heap.size < (w5.alloc (.cells #[.string rk, .string rp, .string rn, .int .i64 d0, .bool d1, .int .i64 d2, .string d3, .slice d4 d4l d4c, .slice d5 d5l d5c] 31)).heap.size := by simp
    have hz5 := HB5.out.size
    clear x0 x1 x2 x3 x4 x5
    generalize w5.alloc (.cells #[.string rk, .string rp, .string rn, .int .i64 d0, .bool d1, .int .i64 d2, .string d3, .slice d4 d4l d4c, .slice d5 d5l d5c] 31) = v6 at *
    have BA6 := Lib.hid (BA.out.later hb6 hs4)
    have BD6 := Lib.hid b6
    have LA6 := Lib.hid (LA.out.later hb6)
    have LD6 := Lib.hid hl6
    have HB6 := Lib.hid (bstep HB4.out hb6 HB4.out.size)
    clear hb6 b6 hl6
    obtain ⟨x0, x1, x2, x3, x4, x5, x6, x7, x8⟩ := BA6.out.nine
    obtain ⟨y0, y1, y2, y3, y4, y5, y6, y7, y8⟩ := BD6.out.nine
    have SM := Lib.hid (rSame_any LA6.out LD6.out v6 (Below.refl _ _))
    rw [T.same_self] at SM
    go_upto_region 7 with (go_at_call 10; refine SM.out.mono ?_; rintro e w7 ⟨rfl, hb7⟩; have HV7 := Lib.hid hb7; clear hb7)
    have HB7 := Lib.hid (bstep HB6.out HV7.out HB6.out.size)
    have BA7 := Lib.hid (BA6.out.later HV7.out (by omega))
    have BD7 := Lib.hid (BD6.out.later HV7.out hs6)
    have LA7 := Lib.hid (LA6.out.later HV7.out)
    have LD7 := Lib.hid (LD6.out.later HV7.out)
    clear x0 x1 x2 x3 x4 x5 x6 x7 x8 y0 y1 y2 y3 y4 y5 y6 y7 y8
    by_cases hc : rc = 0
    case neg =>
      have hq : (rc == 0) = false := by simp [hc]
      go_upto_region 11 with fail
      rcases parse_or s with ⟨pk, pp, pn, hpl, hpr, hpk⟩ | hpl
      · have PS : Hid (Calls Tryd.prog 11 #[.string s] w7 (ParseO w7 (pk, pp, pn, 0))) := by
          have := oParse_any s (by omega) m w7 (MX.out w7 HB7.out)
          rwa [hpl] at this
        obtain ⟨zk', zp', zn'⟩ := right_sizes hpr
        have KS : Hid (∀ w', Calls Tryd.prog 13 #[.agg #[.string pk, .string pp, .string pn]] w' fun e w2 => e = .returned (.string s) ∧ Below w'.heap.size w' w2) := fun w' => by
          have := r12Key_any pk pp pn (by omega) (by omega) (by omega) w'
          rwa [hpk] at this
        have RS : Hid (∀ w', Calls Tryd.prog 17 #[.agg #[.string pk, .string pp, .string pn]] w' fun e w2 => e = .returned (.bool true) ∧ Below w'.heap.size w' w2) := fun w' => by
          have := r12Right_any pk pp pn (by omega) (by omega) (by omega) w'
          rwa [hpr] at this
        have hss : (s.toList == s.toList) = true := by simp
        clear hpl hpr hpk
        go_upto_region 12 with (go_at_call 11; refine PS.out.mono ?_; rintro e wp ⟨rfl, hbp⟩; have HP := Lib.hid (bstep HB7.out hbp HB7.out.size); clear hbp)
        have hbq := HP.out.alloc HP.out.size (.cells #[.string pk, .string pp, .string pn] 29)
        obtain ⟨i0, i1, i2⟩ := Box3.new wp #[.string pk, .string pp, .string pn] 29 _ _ _ rfl
        generalize wp.alloc (.cells #[.string pk, .string pp, .string pn] 29) = vq at *
        have HQ := Lib.hid hbq
        clear hbq
        go_wp2_with (first
          | (go_at_call 7; refine (AW.out _ HQ.out).mono ?_; rintro e wa ⟨rfl, hba⟩; have HA := Lib.hid (bstep HQ.out hba HQ.out.size); have i0 := cells_frame hba i0; have i1 := cells_frame hba i1; have i2 := cells_frame hba i2; clear hba)
          | (go_at_call 17; refine (RS.out _).mono ?_; rintro e wb ⟨rfl, hbb⟩; have HBB := Lib.hid (bstep HA.out hbb HA.out.size); have i0 := cells_frame hbb i0; have i1 := cells_frame hbb i1; have i2 := cells_frame hbb i2; clear hbb)
          | (go_at_call 13; refine (KS.out _).mono ?_; rintro e wc ⟨rfl, hbc⟩; have HCC := Lib.hid (bstep HBB.out hbc HBB.out.size); clear hbc))
        go_ret
        exact ⟨rfl, HCC.out⟩
      · have PS : Hid (Calls Tryd.prog 11 #[.string s] w7 (ParseO w7 (⟨#[]⟩, ⟨#[]⟩, ⟨#[]⟩, 26))) := by
          have := oParse_any s (by omega) m w7 (MX.out w7 HB7.out)
          rwa [hpl] at this
        clear hpl
        go_upto_region 12 with (go_at_call 11; refine PS.out.mono ?_; rintro e wp ⟨rfl, hbp⟩; have HP := Lib.hid (bstep HB7.out hbp HB7.out.size); clear hbp)
        have hbq := HP.out.alloc HP.out.size (.cells #[.string ⟨#[]⟩, .string ⟨#[]⟩, .string ⟨#[]⟩] 29)
        obtain ⟨i0, i1, i2⟩ := Box3.new wp #[.string ⟨#[]⟩, .string ⟨#[]⟩, .string ⟨#[]⟩] 29 _ _ _ rfl
        generalize wp.alloc (.cells #[.string ⟨#[]⟩, .string ⟨#[]⟩, .string ⟨#[]⟩] 29) = vq at *
        have HQ := Lib.hid hbq
        clear hbq
        go_wp2_with (go_at_call 7; refine (AW.out _ HQ.out).mono ?_; rintro e wa ⟨rfl, hba⟩; have HA := Lib.hid (bstep HQ.out hba HQ.out.size); have i0 := cells_frame hba i0; have i1 := cells_frame hba i1; have i2 := cells_frame hba i2; clear hba)
        go_ret
        exact ⟨rfl, HA.out⟩
    case pos =>
      obtain ⟨hrt, hhk⟩ := FACT.out hc
      have hrt : rightO rk rp rn = true := hrt
      have hhk : rHook ru = hookO ru := hhk
      obtain ⟨zk, zp, zn⟩ := right_sizes hrt
      subst hc
      have PA : Hid (∀ w', Below w.heap.size w w' → Calls Tryd.prog 11 #[.string (keyO rk rp rn)] w' (ParseO w' (rk, rp, rn, 0))) := fun w' hb => by
        have := oParse_any (keyO rk rp rn) (by rw [key_size]; omega) m w' (MX.out w' hb)
        rwa [parse_key hrt] at this
      have KO : Hid (∀ w', Calls Tryd.prog 12 #[.agg #[.string rk, .string rp, .string rn]] w' fun e w2 => e = .returned (.string (keyO rk rp rn)) ∧ Below w'.heap.size w' w2) := fun w' => oKey_any rk rp rn (by omega) (by omega) (by omega) w'
      have KR : Hid (∀ w', Calls Tryd.prog 13 #[.agg #[.string rk, .string rp, .string rn]] w' fun e w2 => e = .returned (.string (keyO rk rp rn)) ∧ Below w'.heap.size w' w2) := fun w' => r12Key_any rk rp rn (by omega) (by omega) (by omega) w'
      have RO : Hid (∀ w', Calls Tryd.prog 16 #[.agg #[.string rk, .string rp, .string rn]] w' fun e w2 => e = .returned (.bool true) ∧ Below w'.heap.size w' w2) := fun w' => by
        have := oRight_any rk rp rn (by omega) (by omega) (by omega) w'
        rwa [hrt] at this
      obtain ⟨hk, ehk⟩ : ∃ z, z = hookO ru := ⟨_, rfl⟩
      have HO : Hid (∀ w', Below w7.heap.size w7 w' → Calls Tryd.prog 14 #[.agg #[.string rk, .string rp, .string rn, .int .i64 a0, .bool a1, .int .i64 a2, .string a3, .slice a4 a4l a4c, .slice a5 a5l a5c]] w' fun e w2 => e = .returned (.string hk) ∧ Below w'.heap.size w' w2) := fun w' hb => by
        have := oHook_any LA7.out rk rp rn w' hb
        rwa [← ehk] at this
      have HR : Hid (∀ w', Below w7.heap.size w7 w' → Calls Tryd.prog 15 #[.agg #[.string rk, .string rp, .string rn, .int .i64 d0, .bool d1, .int .i64 d2, .string d3, .slice d4 d4l d4c, .slice d5 d5l d5c]] w' fun e w2 => e = .returned (.string hk) ∧ Below w'.heap.size w' w2) := fun w' hb => by
        have := r12Hook_any LD7.out rk rp rn w' hb
        rwa [hhk, ← ehk] at this
      clear hrt hhk ehk FACT
      generalize keyO rk rp rn = key at *
      obtain ⟨x0, x1, x2, x3, x4, x5, x6, x7, x8⟩ := BA7.out.nine
      go_upto_region 9 with (first
        | (go_at_call 12; refine (KO.out _).mono ?_; rintro e w8 ⟨rfl, hb8⟩; have HV8 := Lib.hid hb8; have HB8 := Lib.hid (bstep HB7.out hb8 HB7.out.size); clear hb8)
        | (go_at_call 11; refine (PA.out _ HB8.out).mono ?_; rintro e w9 ⟨rfl, hb9⟩; have HV9 := Lib.hid hb9; clear hb9))
      have hb10 := HV9.out.alloc HV9.out.size (.cells #[.string rk, .string rp, .string rn] 29)
      obtain ⟨i0, i1, i2⟩ := Box3.new w9 #[.string rk, .string rp, .string rn] 29 _ _ _ rfl
      have hz7 := HV7.out.size
      have hz8 := HV8.out.size
      have hz9 := HV9.out.size
      clear x0 x1 x2 x3 x4 x5 x6 x7 x8
      generalize w9.alloc (.cells #[.string rk, .string rp, .string rn] 29) = u at *
      have hzu := hb10.size
      have hb7u := bstep HV8.out hb10 HV8.out.size
      have HB7U := Lib.hid hb7u
      have BAU := Lib.hid (BA7.out.later hb7u (by omega))
      have BDU := Lib.hid (BD7.out.later hb7u (by omega))
      have HBU := Lib.hid (bstep HB7.out hb7u HB7.out.size)
      clear hb10 hb7u
      refine wp_region_specsS u 30 (fun i => match i with | 0 => 59 | 1 => 60 | 2 => 61 | 3 => 62 | 4 => 63 | 5 => 64 | 6 => 65 | 7 => 66 | 8 => 67 | 9 => 68 | 10 => 69 | 11 => 70 | 12 => 71 | 13 => 72 | 14 => 73 | 15 => 74 | 16 => 75 | 17 => 76 | 18 => 77 | 19 => 78 | 20 => 79 | 21 => 80 | 22 => 81 | 23 => 82 | 24 => 83 | 25 => 84 | 26 => 85 | 27 => 86 | 28 => 87 | 29 => 88 | _ => 0) (fun i => match i with  | _ => false) (fun i x wx => match i with | 0 => x = .int .i64 0 | 1 => x = .bool false | 2 => x = .bool false | 3 => x = .agg #[.string rk, .string rp, .string rn] | 4 => x = .pointer (some ⟨w3.heap.size, 0, none⟩) | 5 => x = .agg #[.string rk, .string rp, .string rn] | 6 => x = .bool false | 7 => x = .bool false | 8 => x = .bool false | 9 => x = .pointer (some ⟨w3.heap.size, 0, none⟩) | 10 => x = .agg #[.string rk, .string rp, .string rn] | 11 => x = .string key | 12 => x = .pointer (some ⟨w5.heap.size, 0, none⟩) | 13 => x = .agg #[.string rk, .string rp, .string rn] | 14 => x = .string key | 15 => x = .bool false | 16 => x = .bool false | 17 => x = .bool false | 18 => x = .agg #[.string rk, .string rp, .string rn, .int .i64 a0, .bool a1, .int .i64 a2, .string a3, .slice a4 a4l a4c, .slice a5 a5l a5c] | 19 => x = .string hk | 20 => x = .agg #[.string rk, .string rp, .string rn, .int .i64 d0, .bool d1, .int .i64 d2, .string d3, .slice d4 d4l d4c, .slice d5 d5l d5c] | 21 => x = .string hk | 22 => x = .bool false | 23 => x = .bool false | 24 => x = .bool false | 25 => x = .pointer (some ⟨w3.heap.size, 0, none⟩) | 26 => x = .agg #[.string rk, .string rp, .string rn] | 27 => x = .bool true | 28 => x = .bool false | 29 => x = .bool false | _ => True) (by kernel_rfl) (by kernel_rfl) ?s1 (Below.refl _ _) ?s2 ?s3 ?sk ?s4 ?s5
      case s1 => intro i hi; rcases (by omega : i = 0 ∨ i = 1 ∨ i = 2 ∨ i = 3 ∨ i = 4 ∨ i = 5 ∨ i = 6 ∨ i = 7 ∨ i = 8 ∨ i = 9 ∨ i = 10 ∨ i = 11 ∨ i = 12 ∨ i = 13 ∨ i = 14 ∨ i = 15 ∨ i = 16 ∨ i = 17 ∨ i = 18 ∨ i = 19 ∨ i = 20 ∨ i = 21 ∨ i = 22 ∨ i = 23 ∨ i = 24 ∨ i = 25 ∨ i = 26 ∨ i = 27 ∨ i = 28 ∨ i = 29) with rfl | rfl | rfl | rfl | rfl | rfl | rfl | rfl | rfl | rfl | rfl | rfl | rfl | rfl | rfl | rfl | rfl | rfl | rfl | rfl | rfl | rfl | rfl | rfl | rfl | rfl | rfl | rfl | rfl | rfl <;> exact Nat.lt_of_lt_of_le (by decide : _ < 117) (Nat.le_refl 117)
      case s2 =>
        intro i x w1 w2 hb hU
        match i, hU with
        | 0, h | 1, h | 2, h | 3, h | 4, h | 5, h | 6, h | 7, h | 8, h | 9, h | 10, h | 11, h | 12, h | 13, h | 14, h | 15, h | 16, h | 17, h | 18, h | 19, h | 20, h | 21, h | 22, h | 23, h | 24, h | 25, h | 26, h | 27, h | 28, h | 29, h => exact h
        | (n + 30), _ => trivial
      case s3 =>
        intro i o g b ho hg x w hu
        have hi : i < 30 := (Array.getElem?_eq_some_iff.1 ho).1
        rcases (by omega : i = 0 ∨ i = 1 ∨ i = 2 ∨ i = 3 ∨ i = 4 ∨ i = 5 ∨ i = 6 ∨ i = 7 ∨ i = 8 ∨ i = 9 ∨ i = 10 ∨ i = 11 ∨ i = 12 ∨ i = 13 ∨ i = 14 ∨ i = 15 ∨ i = 16 ∨ i = 17 ∨ i = 18 ∨ i = 19 ∨ i = 20 ∨ i = 21 ∨ i = 22 ∨ i = 23 ∨ i = 24 ∨ i = 25 ∨ i = 26 ∨ i = 27 ∨ i = 28 ∨ i = 29) with rfl | rfl | rfl | rfl | rfl | rfl | rfl | rfl | rfl | rfl | rfl | rfl | rfl | rfl | rfl | rfl | rfl | rfl | rfl | rfl | rfl | rfl | rfl | rfl | rfl | rfl | rfl | rfl | rfl | rfl
        · simp at ho; subst ho; cases hg
        · simp at ho; subst ho; cases hg
        · simp at ho; subst ho; cases hg
        · simp at ho; subst ho; cases hg; exact hu
        · simp at ho; subst ho; cases hg; exact hu
        · simp at ho; subst ho; cases hg; exact hu
        · simp at ho; subst ho; cases hg; exact hu
        · simp at ho; subst ho; cases hg
        · simp at ho; subst ho; cases hg
        · simp at ho; subst ho; cases hg; exact hu
        · simp at ho; subst ho; cases hg; exact hu
        · simp at ho; subst ho; cases hg; exact hu
        · simp at ho; subst ho; cases hg; exact hu
        · simp at ho; subst ho; cases hg; exact hu
        · simp at ho; subst ho; cases hg; exact hu
        · simp at ho; subst ho; cases hg; exact hu
        · simp at ho; subst ho; cases hg
        · simp at ho; subst ho; cases hg
        · simp at ho; subst ho; cases hg; exact hu
        · simp at ho; subst ho; cases hg; exact hu
        · simp at ho; subst ho; cases hg; exact hu
        · simp at ho; subst ho; cases hg; exact hu
        · simp at ho; subst ho; cases hg; exact hu
        · simp at ho; subst ho; cases hg
        · simp at ho; subst ho; cases hg
        · simp at ho; subst ho; cases hg; exact hu
        · simp at ho; subst ho; cases hg; exact hu
        · simp at ho; subst ho; cases hg; exact hu
        · simp at ho; subst ho; cases hg; exact hu
        · simp at ho; subst ho; cases hg
      case sk =>
        intro i o ho hs
        have hi : i < 30 := (Array.getElem?_eq_some_iff.1 ho).1
        rcases (by omega : i = 0 ∨ i = 1 ∨ i = 2 ∨ i = 3 ∨ i = 4 ∨ i = 5 ∨ i = 6 ∨ i = 7 ∨ i = 8 ∨ i = 9 ∨ i = 10 ∨ i = 11 ∨ i = 12 ∨ i = 13 ∨ i = 14 ∨ i = 15 ∨ i = 16 ∨ i = 17 ∨ i = 18 ∨ i = 19 ∨ i = 20 ∨ i = 21 ∨ i = 22 ∨ i = 23 ∨ i = 24 ∨ i = 25 ∨ i = 26 ∨ i = 27 ∨ i = 28 ∨ i = 29) with rfl | rfl | rfl | rfl | rfl | rfl | rfl | rfl | rfl | rfl | rfl | rfl | rfl | rfl | rfl | rfl | rfl | rfl | rfl | rfl | rfl | rfl | rfl | rfl | rfl | rfl | rfl | rfl | rfl | rfl
        · cases hs
        · cases hs
        · cases hs
        · cases hs
        · cases hs
        · cases hs
        · cases hs
        · cases hs
        · cases hs
        · cases hs
        · cases hs
        · cases hs
        · cases hs
        · cases hs
        · cases hs
        · cases hs
        · cases hs
        · cases hs
        · cases hs
        · cases hs
        · cases hs
        · cases hs
        · cases hs
        · cases hs
        · cases hs
        · cases hs
        · cases hs
        · cases hs
        · cases hs
        · cases hs
      case s4 =>
        intro i o ac wb K' ho hi hs hA hB hdep hK
        have sv5 : ac.tmps[5]?.getD undef = .pointer (some ⟨w3.heap.size, 0, none⟩) := hA.sl (t := 5) (by decide)
        have sv7 : ac.tmps[7]?.getD undef = .pointer (some ⟨w5.heap.size, 0, none⟩) := hA.sl (t := 7) (by decide)
        have sv9 : ac.tmps[9]?.getD undef = .pointer (some ⟨w9.heap.size, 0, none⟩) := hA.sl (t := 9) (by decide)
        have sv10 : ac.tmps[10]?.getD undef = .int .i64 0 := hA.sl (t := 10) (by decide)
        obtain ⟨x0, x1, x2, x3, x4, x5, x6, x7, x8⟩ := (BAU.out.later hB (by omega)).nine
        obtain ⟨y0, y1, y2, y3, y4, y5, y6, y7, y8⟩ := (BDU.out.later hB (by omega)).nine
        have j0 := cells_frame hB i0
        have j1 := cells_frame hB i1
        have j2 := cells_frame hB i2
        rcases (by omega : i = 0 ∨ i = 1 ∨ i = 2 ∨ i = 3 ∨ i = 4 ∨ i = 5 ∨ i = 6 ∨ i = 7 ∨ i = 8 ∨ i = 9 ∨ i = 10 ∨ i = 11 ∨ i = 12 ∨ i = 13 ∨ i = 14 ∨ i = 15 ∨ i = 16 ∨ i = 17 ∨ i = 18 ∨ i = 19 ∨ i = 20 ∨ i = 21 ∨ i = 22 ∨ i = 23 ∨ i = 24 ∨ i = 25 ∨ i = 26 ∨ i = 27 ∨ i = 28 ∨ i = 29) with rfl | rfl | rfl | rfl | rfl | rfl | rfl | rfl | rfl | rfl | rfl | rfl | rfl | rfl | rfl | rfl | rfl | rfl | rfl | rfl | rfl | rfl | rfl | rfl | rfl | rfl | rfl | rfl | rfl | rfl
        · clear hs
          simp at ho
          subst ho
          clear hdep hA
          go_simp
          exact hK _ wb (Below.refl _ _) rfl
        · clear hs
          simp at ho
          subst ho
          have y0 : ac.tmps[59]?.getD undef = .int .i64 0 := hdep { on := 0, ground := .data } (by simp) rfl
          clear hdep hA
          go_simp
          exact hK _ wb (Below.refl _ _) rfl
        · clear hs
          simp at ho
          subst ho
          have y1 : ac.tmps[60]?.getD undef = .bool false := hdep { on := 1, ground := .data } (by simp) rfl
          clear hdep hA
          go_simp
          exact hK _ wb (Below.refl _ _) rfl
        · clear hs
          simp at ho
          subst ho
          clear hdep hA
          go_simp
          exact hK _ wb (Below.refl _ _) rfl
        · clear hs
          simp at ho
          subst ho
          clear hdep hA
          go_simp
          exact hK _ wb (Below.refl _ _) rfl
        · clear hs
          simp at ho
          subst ho
          have y4 : ac.tmps[63]?.getD undef = .pointer (some ⟨w3.heap.size, 0, none⟩) := hdep { on := 4, ground := .data } (by simp) rfl
          clear hdep hA
          go_simp
          exact hK _ wb (Below.refl _ _) rfl
        · clear hs
          simp at ho
          subst ho
          have y3 : ac.tmps[62]?.getD undef = .agg #[.string rk, .string rp, .string rn] := hdep { on := 3, ground := .data } (by simp) rfl
          have y5 : ac.tmps[64]?.getD undef = .agg #[.string rk, .string rp, .string rn] := hdep { on := 5, ground := .data } (by simp) rfl
          clear hdep hA
          go_simp
          exact hK _ wb (Below.refl _ _) rfl
        · clear hs
          simp at ho
          subst ho
          have y2 : ac.tmps[61]?.getD undef = .bool false := hdep { on := 2, ground := .data } (by simp) rfl
          have y6 : ac.tmps[65]?.getD undef = .bool false := hdep { on := 6, ground := .data } (by simp) rfl
          clear hdep hA
          go_simp
          exact hK _ wb (Below.refl _ _) rfl
        · clear hs
          simp at ho
          subst ho
          have y7 : ac.tmps[66]?.getD undef = .bool false := hdep { on := 7, ground := .data } (by simp) rfl
          clear hdep hA
          go_simp
          exact hK _ wb (Below.refl _ _) rfl
        · clear hs
          simp at ho
          subst ho
          clear hdep hA
          go_simp
          exact hK _ wb (Below.refl _ _) rfl
        · clear hs
          simp at ho
          subst ho
          have y9 : ac.tmps[68]?.getD undef = .pointer (some ⟨w3.heap.size, 0, none⟩) := hdep { on := 9, ground := .data } (by simp) rfl
          clear hdep hA
          go_simp
          exact hK _ wb (Below.refl _ _) rfl
        · clear hs
          simp at ho
          subst ho
          have y10 : ac.tmps[69]?.getD undef = .agg #[.string rk, .string rp, .string rn] := hdep { on := 10, ground := .data } (by simp) rfl
          clear hdep hA
          go_simp
          refine (KO.out wb).mono ?_
          rintro e wz ⟨rfl, hbz⟩
          exact hK _ wz hbz rfl
        · clear hs
          simp at ho
          subst ho
          clear hdep hA
          go_simp
          exact hK _ wb (Below.refl _ _) rfl
        · clear hs
          simp at ho
          subst ho
          have y12 : ac.tmps[71]?.getD undef = .pointer (some ⟨w5.heap.size, 0, none⟩) := hdep { on := 12, ground := .data } (by simp) rfl
          clear hdep hA
          go_simp
          exact hK _ wb (Below.refl _ _) rfl
        · clear hs
          simp at ho
          subst ho
          have y13 : ac.tmps[72]?.getD undef = .agg #[.string rk, .string rp, .string rn] := hdep { on := 13, ground := .data } (by simp) rfl
          clear hdep hA
          go_simp
          refine (KR.out wb).mono ?_
          rintro e wz ⟨rfl, hbz⟩
          exact hK _ wz hbz rfl
        · clear hs
          simp at ho
          subst ho
          have y11 : ac.tmps[70]?.getD undef = .string key := hdep { on := 11, ground := .data } (by simp) rfl
          have y14 : ac.tmps[73]?.getD undef = .string key := hdep { on := 14, ground := .data } (by simp) rfl
          clear hdep hA
          go_simp
          exact hK _ wb (Below.refl _ _) rfl
        · clear hs
          simp at ho
          subst ho
          have y8 : ac.tmps[67]?.getD undef = .bool false := hdep { on := 8, ground := .data } (by simp) rfl
          have y15 : ac.tmps[74]?.getD undef = .bool false := hdep { on := 15, ground := .data } (by simp) rfl
          clear hdep hA
          go_simp
          exact hK _ wb (Below.refl _ _) rfl
        · clear hs
          simp at ho
          subst ho
          have y16 : ac.tmps[75]?.getD undef = .bool false := hdep { on := 16, ground := .data } (by simp) rfl
          clear hdep hA
          go_simp
          exact hK _ wb (Below.refl _ _) rfl
        · clear hs
          simp at ho
          subst ho
          clear hdep hA
          go_simp
          exact hK _ wb (Below.refl _ _) rfl
        · clear hs
          simp at ho
          subst ho
          have y18 : ac.tmps[77]?.getD undef = .agg #[.string rk, .string rp, .string rn, .int .i64 a0, .bool a1, .int .i64 a2, .string a3, .slice a4 a4l a4c, .slice a5 a5l a5c] := hdep { on := 18, ground := .data } (by simp) rfl
          clear hdep hA
          go_simp
          refine (HO.out wb (bstep HB7U.out hB HB7U.out.size)).mono ?_
          rintro e wz ⟨rfl, hbz⟩
          exact hK _ wz hbz rfl
        · clear hs
          simp at ho
          subst ho
          clear hdep hA
          go_simp
          exact hK _ wb (Below.refl _ _) rfl
        · clear hs
          simp at ho
          subst ho
          have y20 : ac.tmps[79]?.getD undef = .agg #[.string rk, .string rp, .string rn, .int .i64 d0, .bool d1, .int .i64 d2, .string d3, .slice d4 d4l d4c, .slice d5 d5l d5c] := hdep { on := 20, ground := .data } (by simp) rfl
          clear hdep hA
          go_simp
          refine (HR.out wb (bstep HB7U.out hB HB7U.out.size)).mono ?_
          rintro e wz ⟨rfl, hbz⟩
          exact hK _ wz hbz rfl
        · clear hs
          simp at ho
          subst ho
          have y19 : ac.tmps[78]?.getD undef = .string hk := hdep { on := 19, ground := .data } (by simp) rfl
          have y21 : ac.tmps[80]?.getD undef = .string hk := hdep { on := 21, ground := .data } (by simp) rfl
          clear hdep hA
          go_simp
          exact hK _ wb (Below.refl _ _) rfl
        · clear hs
          simp at ho
          subst ho
          have y17 : ac.tmps[76]?.getD undef = .bool false := hdep { on := 17, ground := .data } (by simp) rfl
          have y22 : ac.tmps[81]?.getD undef = .bool false := hdep { on := 22, ground := .data } (by simp) rfl
          clear hdep hA
          go_simp
          exact hK _ wb (Below.refl _ _) rfl
        · clear hs
          simp at ho
          subst ho
          have y23 : ac.tmps[82]?.getD undef = .bool false := hdep { on := 23, ground := .data } (by simp) rfl
          clear hdep hA
          go_simp
          exact hK _ wb (Below.refl _ _) rfl
        · clear hs
          simp at ho
          subst ho
          clear hdep hA
          go_simp
          exact hK _ wb (Below.refl _ _) rfl
        · clear hs
          simp at ho
          subst ho
          have y25 : ac.tmps[84]?.getD undef = .pointer (some ⟨w3.heap.size, 0, none⟩) := hdep { on := 25, ground := .data } (by simp) rfl
          clear hdep hA
          go_simp
          exact hK _ wb (Below.refl _ _) rfl
        · clear hs
          simp at ho
          subst ho
          have y26 : ac.tmps[85]?.getD undef = .agg #[.string rk, .string rp, .string rn] := hdep { on := 26, ground := .data } (by simp) rfl
          clear hdep hA
          go_simp
          refine (RO.out wb).mono ?_
          rintro e wz ⟨rfl, hbz⟩
          exact hK _ wz hbz rfl
        · clear hs
          simp at ho
          subst ho
          have y27 : ac.tmps[86]?.getD undef = .bool true := hdep { on := 27, ground := .data } (by simp) rfl
          clear hdep hA
          go_simp
          exact hK _ wb (Below.refl _ _) rfl
        · clear hs
          simp at ho
          subst ho
          have y24 : ac.tmps[83]?.getD undef = .bool false := hdep { on := 24, ground := .data } (by simp) rfl
          have y28 : ac.tmps[87]?.getD undef = .bool false := hdep { on := 28, ground := .data } (by simp) rfl
          clear hdep hA
          go_simp
          exact hK _ wb (Below.refl _ _) rfl
      case s5 =>
        intro ac wn hA hB hU
        have hs : slots 30 (fun i => match i with | 0 => 59 | 1 => 60 | 2 => 61 | 3 => 62 | 4 => 63 | 5 => 64 | 6 => 65 | 7 => 66 | 8 => 67 | 9 => 68 | 10 => 69 | 11 => 70 | 12 => 71 | 13 => 72 | 14 => 73 | 15 => 74 | 16 => 75 | 17 => 76 | 18 => 77 | 19 => 78 | 20 => 79 | 21 => 80 | 22 => 81 | 23 => 82 | 24 => 83 | 25 => 84 | 26 => 85 | 27 => 86 | 28 => 87 | 29 => 88 | _ => 0) = [59, 60, 61, 62, 63, 64, 65, 66, 67, 68, 69, 70, 71, 72, 73, 74, 75, 76, 77, 78, 79, 80, 81, 82, 83, 84, 85, 86, 87, 88] := by rfl
        rw [hs] at hA
        have hac := hA.act (fun t ht => by
          have h8 : t = 59 ∨ t = 60 ∨ t = 61 ∨ t = 62 ∨ t = 63 ∨ t = 64 ∨ t = 65 ∨ t = 66 ∨ t = 67 ∨ t = 68 ∨ t = 69 ∨ t = 70 ∨ t = 71 ∨ t = 72 ∨ t = 73 ∨ t = 74 ∨ t = 75 ∨ t = 76 ∨ t = 77 ∨ t = 78 ∨ t = 79 ∨ t = 80 ∨ t = 81 ∨ t = 82 ∨ t = 83 ∨ t = 84 ∨ t = 85 ∨ t = 86 ∨ t = 87 ∨ t = 88 := by simpa using ht
          rcases h8 with rfl | rfl | rfl | rfl | rfl | rfl | rfl | rfl | rfl | rfl | rfl | rfl | rfl | rfl | rfl | rfl | rfl | rfl | rfl | rfl | rfl | rfl | rfl | rfl | rfl | rfl | rfl | rfl | rfl | rfl <;> exact Nat.lt_of_lt_of_le (by decide : _ < 117) (Nat.le_refl 117))
        rw [List.foldl_cons, List.foldl_cons, List.foldl_cons, List.foldl_cons, List.foldl_cons, List.foldl_cons, List.foldl_cons, List.foldl_cons, List.foldl_cons, List.foldl_cons, List.foldl_cons, List.foldl_cons, List.foldl_cons, List.foldl_cons, List.foldl_cons, List.foldl_cons, List.foldl_cons, List.foldl_cons, List.foldl_cons, List.foldl_cons, List.foldl_cons, List.foldl_cons, List.foldl_cons, List.foldl_cons, List.foldl_cons, List.foldl_cons, List.foldl_cons, List.foldl_cons, List.foldl_cons, List.foldl_cons, List.foldl_nil] at hac
        have HBN := Lib.hid (bstep HBU.out hB HBU.out.size)
        have z88 : sl ac 88 = .bool false := hU 29 (by omega)
        clear hU hB hs
        generalize sl ac 59 = x59 at hac z88
        generalize sl ac 60 = x60 at hac z88
        generalize sl ac 61 = x61 at hac z88
        generalize sl ac 62 = x62 at hac z88
        generalize sl ac 63 = x63 at hac z88
        generalize sl ac 64 = x64 at hac z88
        generalize sl ac 65 = x65 at hac z88
        generalize sl ac 66 = x66 at hac z88
        generalize sl ac 67 = x67 at hac z88
        generalize sl ac 68 = x68 at hac z88
        generalize sl ac 69 = x69 at hac z88
        generalize sl ac 70 = x70 at hac z88
        generalize sl ac 71 = x71 at hac z88
        generalize sl ac 72 = x72 at hac z88
        generalize sl ac 73 = x73 at hac z88
        generalize sl ac 74 = x74 at hac z88
        generalize sl ac 75 = x75 at hac z88
        generalize sl ac 76 = x76 at hac z88
        generalize sl ac 77 = x77 at hac z88
        generalize sl ac 78 = x78 at hac z88
        generalize sl ac 79 = x79 at hac z88
        generalize sl ac 80 = x80 at hac z88
        generalize sl ac 81 = x81 at hac z88
        generalize sl ac 82 = x82 at hac z88
        generalize sl ac 83 = x83 at hac z88
        generalize sl ac 84 = x84 at hac z88
        generalize sl ac 85 = x85 at hac z88
        generalize sl ac 86 = x86 at hac z88
        generalize sl ac 87 = x87 at hac z88
        generalize sl ac 88 = x88 at hac z88
        clear hA
        subst z88
        subst hac
        simp only [Act.put, List.setIfInBounds_toArray, List.set_cons_succ, List.set_cons_zero]
        go_upto_region 11 with fail
        rcases parse_or s with ⟨pk, pp, pn, hpl, hpr, hpk⟩ | hpl
        · have PS : Hid (Calls Tryd.prog 11 #[.string s] wn (ParseO wn (pk, pp, pn, 0))) := by
            have := oParse_any s (by omega) m wn (MX.out wn HBN.out)
            rwa [hpl] at this
          obtain ⟨zk', zp', zn'⟩ := right_sizes hpr
          have KS : Hid (∀ w', Calls Tryd.prog 13 #[.agg #[.string pk, .string pp, .string pn]] w' fun e w2 => e = .returned (.string s) ∧ Below w'.heap.size w' w2) := fun w' => by
            have := r12Key_any pk pp pn (by omega) (by omega) (by omega) w'
            rwa [hpk] at this
          have RS : Hid (∀ w', Calls Tryd.prog 17 #[.agg #[.string pk, .string pp, .string pn]] w' fun e w2 => e = .returned (.bool true) ∧ Below w'.heap.size w' w2) := fun w' => by
            have := r12Right_any pk pp pn (by omega) (by omega) (by omega) w'
            rwa [hpr] at this
          have hss : (s.toList == s.toList) = true := by simp
          clear hpl hpr hpk
          go_upto_region 12 with (go_at_call 11; refine PS.out.mono ?_; rintro e wp ⟨rfl, hbp⟩; have HP := Lib.hid (bstep HBN.out hbp HBN.out.size); clear hbp)
          have hbq := HP.out.alloc HP.out.size (.cells #[.string pk, .string pp, .string pn] 29)
          obtain ⟨i0, i1, i2⟩ := Box3.new wp #[.string pk, .string pp, .string pn] 29 _ _ _ rfl
          generalize wp.alloc (.cells #[.string pk, .string pp, .string pn] 29) = vq at *
          have HQ := Lib.hid hbq
          clear hbq
          go_wp2_with (first
            | (go_at_call 7; refine (AW.out _ HQ.out).mono ?_; rintro e wa ⟨rfl, hba⟩; have HA := Lib.hid (bstep HQ.out hba HQ.out.size); have i0 := cells_frame hba i0; have i1 := cells_frame hba i1; have i2 := cells_frame hba i2; clear hba)
            | (go_at_call 17; refine (RS.out _).mono ?_; rintro e wb ⟨rfl, hbb⟩; have HBB := Lib.hid (bstep HA.out hbb HA.out.size); have i0 := cells_frame hbb i0; have i1 := cells_frame hbb i1; have i2 := cells_frame hbb i2; clear hbb)
            | (go_at_call 13; refine (KS.out _).mono ?_; rintro e wc ⟨rfl, hbc⟩; have HCC := Lib.hid (bstep HBB.out hbc HBB.out.size); clear hbc))
          go_ret
          exact ⟨rfl, HCC.out⟩
        · have PS : Hid (Calls Tryd.prog 11 #[.string s] wn (ParseO wn (⟨#[]⟩, ⟨#[]⟩, ⟨#[]⟩, 26))) := by
            have := oParse_any s (by omega) m wn (MX.out wn HBN.out)
            rwa [hpl] at this
          clear hpl
          go_upto_region 12 with (go_at_call 11; refine PS.out.mono ?_; rintro e wp ⟨rfl, hbp⟩; have HP := Lib.hid (bstep HBN.out hbp HBN.out.size); clear hbp)
          have hbq := HP.out.alloc HP.out.size (.cells #[.string ⟨#[]⟩, .string ⟨#[]⟩, .string ⟨#[]⟩] 29)
          obtain ⟨i0, i1, i2⟩ := Box3.new wp #[.string ⟨#[]⟩, .string ⟨#[]⟩, .string ⟨#[]⟩] 29 _ _ _ rfl
          generalize wp.alloc (.cells #[.string ⟨#[]⟩, .string ⟨#[]⟩, .string ⟨#[]⟩] 29) = vq at *
          have HQ := Lib.hid hbq
          clear hbq
          go_wp2_with (go_at_call 7; refine (AW.out _ HQ.out).mono ?_; rintro e wa ⟨rfl, hba⟩; have HA := Lib.hid (bstep HQ.out hba HQ.out.size); have i0 := cells_frame hba i0; have i1 := cells_frame hba i1; have i2 := cells_frame hba i2; clear hba)
          go_ret
          exact ⟨rfl, HA.out⟩
end Go.Proofs.YtbmlmcoepmbelaaDoor
