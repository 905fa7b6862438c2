/-
  What the laws let in: values that may be, and are small.
-/
import Derived.Test.YtbmlmcoepmbelaaDoorParts
import Derived.Test.YtbmlmcoepmbelaaDoorWeight
set_option linter.unusedVariables false
set_option linter.unusedSimpArgs false
namespace Go.Proofs.YtbmlmcoepmbelaaDoor
open Go.RowKit Go.Sort

/-- What is wrong with a value. -/
def T.check (t : T) : Int := if 16 < t.depth then 5 else if 4096 < t.size then 6 else t.parts

set_option maxHeartbeats 400000 in
theorem rCheck_any {w0 : World} {R : Nat → Prop} {t : T} {cs : Array Value} (h : Lies w0 R t cs) (w : World) (hw : Below w0.heap.size w0 w) (hz : t.size ≤ 4611686018427387904) :
    Calls Tryd.prog 27 #[.agg cs] w fun e w' => e = .returned (.int .i64 t.check) ∧ Below w.heap.size w w' := by
  have hd := t.depth_le_size
  have CD := Lib.hid (rDepth_any h)
  have CS := Lib.hid (rSize_any h)
  have CP := Lib.hid (rparts_any h)
  have HC : Hid (t.check = if 16 < t.depth then 5 else if 4096 < t.size then 6 else t.parts) := rfl
  obtain ⟨k, b, n, s, la, ll, lc, ma, ml, mc, rfl⟩ := h.six
  go_enter Tryd.func27, Tryd.ntmps27
  go_wp2_with fail
  refine (CD.out _ (bbox hw _ hw.size) (by omega)).mono ?_
  rintro e w1 ⟨rfl, hb1⟩
  have hb2 := bunbox hb1 (Nat.le_refl _) (by simp)
  have hw1 := bstep hw hb2 hw.size
  have b0 := box_cell hb1 (o := 0) (by simp) rfl
  have b1 := box_cell hb1 (o := 1) (by simp) rfl
  have b2 := box_cell hb1 (o := 2) (by simp) rfl
  have b3 := box_cell hb1 (o := 3) (by simp) rfl
  have b4 := box_cell hb1 (o := 4) (by simp) rfl
  have b5 := box_cell hb1 (o := 5) (by simp) rfl
  by_cases h16 : 16 < t.depth
  · rw [if_pos h16] at HC
    have h16' : (16 : Int) < t.depth := by omega
    go_wp2_with fail
    go_ret
    exact ⟨ret_int HC.out.symm, hb2⟩
  rw [if_neg h16] at HC
  have h16' : ¬ (16 : Int) < t.depth := by omega
  go_wp2_with fail
  refine (CS.out _ hw1 (by omega)).mono ?_
  rintro e w2 ⟨rfl, hb3⟩
  have hb4 := bstep hb2 hb3 hb2.size
  have hw2 := bstep hw hb4 hw.size
  have hb13 := bstep hb1 hb3 hb1.size
  have c0 := box_cell hb13 (o := 0) (by simp) rfl
  have c1 := box_cell hb13 (o := 1) (by simp) rfl
  have c2 := box_cell hb13 (o := 2) (by simp) rfl
  have c3 := box_cell hb13 (o := 3) (by simp) rfl
  have c4 := box_cell hb13 (o := 4) (by simp) rfl
  have c5 := box_cell hb13 (o := 5) (by simp) rfl
  by_cases h46 : 4096 < t.size
  · rw [if_pos h46] at HC
    have h46' : (4096 : Int) < t.size := by omega
    go_wp2_with fail
    go_ret
    exact ⟨ret_int HC.out.symm, hb4⟩
  rw [if_neg h46] at HC
  have h46' : ¬ (4096 : Int) < t.size := by omega
  go_wp2_with fail
  refine (CP.out _ hw2).mono ?_
  rintro e w3 ⟨rfl, hb5⟩
  go_wp2_with fail
  go_ret
  exact ⟨ret_int HC.out.symm, bstep hb4 hb5 hb4.size⟩

/-- Small? -/
def T.light (t : T) : Bool := decide (t.weight 0 ≤ 6000)
theorem T.light_bulk {t : T} (h : t.light = true) : t.bulk ≤ 6000 := by
  have := weight_bulk t 0 (by simpa [T.light] using h)
  have h2 : t.weight 0 ≤ 6000 := by simpa [T.light] using h
  omega
theorem T.light_size {t : T} (h : t.light = true) : t.size ≤ 6000 := Nat.le_trans t.size_le_bulk (T.light_bulk h)

set_option maxHeartbeats 400000 in
theorem light_any {w0 : World} {R : Nat → Prop} {t : T} {cs : Array Value} (h : Lies w0 R t cs) (w : World) (hw : Below w0.heap.size w0 w) :
    Calls Tryd.prog 6 #[.agg cs] w fun e w' => e = .returned (.bool t.light) ∧ Below w.heap.size w w' := by
  have CW := Lib.hid (weight_any h 0)
  obtain ⟨k, b, n, s, la, ll, lc, ma, ml, mc, rfl⟩ := h.six
  go_enter Tryd.func6, Tryd.ntmps6
  go_wp2_with fail
  refine (CW.out _ (bbox hw _ hw.size) (by omega)).mono ?_
  rintro e w1 ⟨rfl, hb1⟩
  have hb2 := bunbox hb1 (Nat.le_refl _) (by simp)
  go_wp2_with fail
  go_ret
  exact ⟨ret_bool (decide_eq_decide.2 (by omega)), hb2⟩

/-- May it be, and is it small? -/
def T.good (t : T) : Bool := t.light && decide (t.check = 0)

def allGood (ts : List T) (j : Nat) : Bool := (ts.take j).all T.good
theorem allGood_zero (ts : List T) : allGood ts 0 = true := by simp [allGood]
theorem allGood_succ (ts : List T) (j : Nat) (h : j < ts.length) : allGood ts (j + 1) = (allGood ts j && ts[j].good) := by
  unfold allGood
  rw [List.take_succ_eq_append_getElem h, List.all_append]
  simp
theorem allGood_all (ts : List T) : allGood ts ts.length = ts.all T.good := by simp [allGood]
theorem allGood_bad (ts : List T) (j : Nat) (h : j < ts.length) (hb : ts[j].good = false) : ts.all T.good = false := by
  rw [List.all_eq_false]
  exact ⟨ts[j], List.getElem_mem h, by simp [hb]⟩

end Go.Proofs.YtbmlmcoepmbelaaDoor
