/-
  What the laws let in: values that may be, and are small.
-/
import Derived.Test.YthjdeckdklhphaaGreatDoorParts
import Derived.Test.YthjdeckdklhphaaGreatDoorTruthM
set_option linter.unusedVariables false
set_option linter.unusedSimpArgs false
namespace Go.Proofs.YthjdeckdklhphaaGreatDoor
open Go.RowKit Go.Sort

/-- What is wrong with a value. -/
def T.check (t : T) : Int := if 16 < t.depth then 5 else if 4096 < t.size then 6 else t.parts

set_option maxHeartbeats 400000 in
theorem rCheck_any {w0 : World} {R : Nat → Prop} {t : T} {cs : Array Value} (h : Lies w0 R t cs) (w : World) (hw : Below w0.heap.size w0 w) (hz : t.size ≤ 4611686018427387904) :
    Calls Tryz.prog 12 #[.agg cs] w fun e w' => e = .returned (.int .i64 t.check) ∧ Below w.heap.size w w' := by
  have hd := t.depth_le_size
  have CD := Lib.hid (rDepth_any h)
  have CS := Lib.hid (rSize_any h)
  have CP := Lib.hid (rparts_any h)
  have HC : Hid (t.check = if 16 < t.depth then 5 else if 4096 < t.size then 6 else t.parts) := rfl
  obtain ⟨k, b, n, s, la, ll, lc, ma, ml, mc, rfl⟩ := h.six
  go_enter Tryz.func12, Tryz.ntmps12
  go_wp2_with fail
  refine (CD.out _ (bbox hw _ hw.size) (by omega)).mono ?_
  rintro e w1 ⟨rfl, hb1⟩
  have hb2 := bunbox hb1 (Nat.le_refl _) (by simp)
  have hw1 := bstep hw hb2 hw.size
  have b0 := box_cell hb1 (o := 0) (by simp) rfl
  have b1 := box_cell hb1 (o := 1) (by simp) rfl
  have b2 := box_cell hb1 (o := 2) (by simp) rfl
  have b3 := box_cell hb1 (o := 3) (by simp) rfl
  have b4 := box_cell hb1 (o := 4) (by simp) rfl
  have b5 := box_cell hb1 (o := 5) (by simp) rfl
  by_cases h16 : 16 < t.depth
  · rw [if_pos h16] at HC
    have h16' : (16 : Int) < t.depth := by omega
    go_wp2_with fail
    go_ret
    exact ⟨ret_int HC.out.symm, hb2⟩
  rw [if_neg h16] at HC
  have h16' : ¬ (16 : Int) < t.depth := by omega
  go_wp2_with fail
  refine (CS.out _ hw1 (by omega)).mono ?_
  rintro e w2 ⟨rfl, hb3⟩
  have hb4 := bstep hb2 hb3 hb2.size
  have hw2 := bstep hw hb4 hw.size
  have hb13 := bstep hb1 hb3 hb1.size
  have c0 := box_cell hb13 (o := 0) (by simp) rfl
  have c1 := box_cell hb13 (o := 1) (by simp) rfl
  have c2 := box_cell hb13 (o := 2) (by simp) rfl
  have c3 := box_cell hb13 (o := 3) (by simp) rfl
  have c4 := box_cell hb13 (o := 4) (by simp) rfl
  have c5 := box_cell hb13 (o := 5) (by simp) rfl
  by_cases h46 : 4096 < t.size
  · rw [if_pos h46] at HC
    have h46' : (4096 : Int) < t.size := by omega
    go_wp2_with fail
    go_ret
    exact ⟨ret_int HC.out.symm, hb4⟩
  rw [if_neg h46] at HC
  have h46' : ¬ (4096 : Int) < t.size := by omega
  go_wp2_with fail
  refine (CP.out _ hw2).mono ?_
  rintro e w3 ⟨rfl, hb5⟩
  go_wp2_with fail
  go_ret
  exact ⟨ret_int HC.out.symm, bstep hb4 hb5 hb4.size⟩

/-- Small? -/
def T.light (t : T) : Bool := decide (t.weight 0 ≤ 6000)
theorem T.light_bulk {t : T} (h : t.light = true) : t.bulk ≤ 6000 := by
  have := weight_bulk t 0 (by simpa [T.light] using h)
  have h2 : t.weight 0 ≤ 6000 := by simpa [T.light] using h
  omega
theorem T.light_size {t : T} (h : t.light = true) : t.size ≤ 6000 := Nat.le_trans t.size_le_bulk (T.light_bulk h)

set_option maxHeartbeats 400000 in
theorem light_any {w0 : World} {R : Nat → Prop} {t : T} {cs : Array Value} (h : Lies w0 R t cs) (w : World) (hw : Below w0.heap.size w0 w) :
    Calls Tryz.prog 11 #[.agg cs] w fun e w' => e = .returned (.bool t.light) ∧ Below w.heap.size w w' := by
  have CW := Lib.hid (weight_any h 0)
  obtain ⟨k, b, n, s, la, ll, lc, ma, ml, mc, rfl⟩ := h.six
  go_enter Tryz.func11, Tryz.ntmps11
  go_wp2_with fail
  refine (CW.out _ (bbox hw _ hw.size) (by omega)).mono ?_
  rintro e w1 ⟨rfl, hb1⟩
  have hb2 := bunbox hb1 (Nat.le_refl _) (by simp)
  go_wp2_with fail
  go_ret
  exact ⟨ret_bool (decide_eq_decide.2 (by omega)), hb2⟩

/-- May it be, and is it small? -/
def T.good (t : T) : Bool := t.light && decide (t.check = 0)

def allGood (ts : List T) (j : Nat) : Bool := (ts.take j).all T.good
theorem allGood_zero (ts : List T) : allGood ts 0 = true := by simp [allGood]
theorem allGood_succ (ts : List T) (j : Nat) (h : j < ts.length) : allGood ts (j + 1) = (allGood ts j && ts[j].good) := by
  unfold allGood
  rw [List.take_succ_eq_append_getElem h, List.all_append]
  simp
theorem allGood_all (ts : List T) : allGood ts ts.length = ts.all T.good := by simp [allGood]
theorem allGood_bad (ts : List T) (j : Nat) (h : j < ts.length) (hb : ts[j].good = false) : ts.all T.good = false := by
  rw [List.all_eq_false]
  exact ⟨ts[j], List.getElem_mem h, by simp [hb]⟩

set_option maxHeartbeats 400000 in
theorem right_any {w0 : World} {R : Nat → Prop} {ts : List T} {a : Option Addr} {cap : Nat} {cl : Nat → Array Value} (h : SliceV w0 R ts a cap cl) (w : World) (hw : Below w0.heap.size w0 w) :
    Calls Tryz.prog 4 #[.slice a ts.length cap] w fun e w' => e = .returned (.bool (ts.all T.good)) ∧ Below w.heap.size w w' := by
  have hl := h.hdr
  have ll := hl.le
  have lx := hl.big
  have RL := Lib.hid h.rows
  have HA := Lib.hid (allGood_all ts)
  go_enter Tryz.func4, Tryz.ntmps4
  go_wp2_with fail
  go_loopw [7] (fun vi wr => ∃ j : Nat, j ≤ ts.length ∧ vi = .int .i64 j ∧ Hid (allGood ts j = true) ∧ Below w.heap.size w wr) (fun vi _ => ts.length - (intOf vi).toNat)
  case atStart => exact ⟨0, by omega, rfl, allGood_zero ts, Below.refl _ _⟩
  case round =>
    obtain ⟨j, hj, rfl, hg, hbw⟩ := hrel
    have hbw2 := bstep hw hbw hw.size
    by_cases hjl : j < ts.length
    · have CL := Lib.hid (light_any (h.each j hjl))
      have CC := Lib.hid (rCheck_any (h.each j hjl))
      have GS := Lib.hid (allGood_succ ts j hjl)
      have GB := Lib.hid (allGood_bad ts j hjl)
      obtain ⟨bl, ol, c0, c1, c2, c3, c4, c4l, c4c, c5, c5l, c5c, rfl, hc, r0, r1, r2, r3, r4, r5⟩ := openL hbw2 hl RL.out hjl (h.each j hjl)
      rw [hc] at CL CC
      clear hc
      go_wp2_with fail
      refine (CL.out _ (bbox hbw2 _ hbw2.size)).mono ?_
      rintro e w1 ⟨rfl, hb1⟩
      have hb2 := bstep hbw (bunbox hb1 (Nat.le_refl _) (by simp)) hbw.size
      cases hli : ts[j].light with
      | false =>
        have HB := Lib.hid (GB.out (by simp [T.good, hli]))
        clear hli
        go_wp2_with fail
        go_ret
        exact ⟨ret_bool HB.out.symm, hb2⟩
      | true =>
        have hsz := T.light_size hli
        have HLI := Lib.hid hli
        clear hli
        have b0 := box_cell hb1 (o := 0) (by simp) rfl
        have b1 := box_cell hb1 (o := 1) (by simp) rfl
        have b2 := box_cell hb1 (o := 2) (by simp) rfl
        have b3 := box_cell hb1 (o := 3) (by simp) rfl
        have b4 := box_cell hb1 (o := 4) (by simp) rfl
        have b5 := box_cell hb1 (o := 5) (by simp) rfl
        by_cases hck : ts[j].check = 0
        · have HK : (ts[j].check != 0) = false := by rw [hck]; rfl
          have HG := Lib.hid (show ts[j].good = true by simp [T.good, HLI.out, hck])
          clear hck
          go_wp2_with fail
          refine (CC.out _ (bstep hw hb2 hw.size) (by omega)).mono ?_
          rintro e w2 ⟨rfl, hb3⟩
          have hb4 := bstep hb2 hb3 hb2.size
          go_wp2_with fail
          go_roundw
          case rel => exact ⟨j + 1, by omega, by go_num, by show allGood ts (j + 1) = true; rw [GS.out, hg.out, HG.out]; rfl, hb4⟩
          case measure => simp [intOf]; omega
        · have HK : (ts[j].check != 0) = true := ne_form hck
          have HB := Lib.hid (GB.out (by simp [T.good, hck]))
          clear hck
          go_wp2_with fail
          refine (CC.out _ (bstep hw hb2 hw.size) (by omega)).mono ?_
          rintro e w2 ⟨rfl, hb3⟩
          have hb4 := bstep hb2 hb3 hb2.size
          go_wp2_with fail
          go_ret
          exact ⟨ret_bool HB.out.symm, hb4⟩
    · obtain rfl : j = ts.length := by omega
      have HE := Lib.hid (HA.out.symm.trans hg.out)
      go_wp2_with fail
      go_ret
      exact ⟨ret_bool HE.out.symm, hbw⟩

end Go.Proofs.YthjdeckdklhphaaGreatDoor
