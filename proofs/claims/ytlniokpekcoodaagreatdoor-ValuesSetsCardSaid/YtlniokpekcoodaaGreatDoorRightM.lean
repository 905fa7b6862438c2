/-
  What the laws let in: values that may be, and are small.
-/
import Derived.Test.YtlniokpekcoodaaGreatDoorParts
import Derived.Test.YtlniokpekcoodaaGreatDoorWeight
import Derived.Test.YtlniokpekcoodaaGreatDoorMapTopM
import Derived.Test.YtlniokpekcoodaaGreatDoorOverZM
import Derived.Test.YtlniokpekcoodaaGreatDoorLaid
import Derived.Lib.QuietBelow
set_option linter.unusedVariables false
set_option linter.unusedSimpArgs false
namespace Go.Proofs.YtlniokpekcoodaaGreatDoor
open Go.RowKit Go.Sort

/-- What is wrong with a value. -/
def T.check (t : T) : Int := if 16 < t.depth then 5 else if 4096 < t.size then 6 else t.parts

set_option maxHeartbeats 400000 in
theorem rCheck_any {w0 : World} {R : Nat → Prop} {t : T} {cs : Array Value} (h : Lies w0 R t cs) (w : World) (hw : Below w0.heap.size w0 w) (hz : t.size ≤ 4611686018427387904) :
    Calls Tryz.prog 18 #[.agg cs] w fun e w' => e = .returned (.int .i64 t.check) ∧ Below w.heap.size w w' := by
  have hd := t.depth_le_size
  have CD := Lib.hid (rDepth_any h)
  have CS := Lib.hid (rSize_any h)
  have CP := Lib.hid (rparts_any h)
  have HC : Hid (t.check = if 16 < t.depth then 5 else if 4096 < t.size then 6 else t.parts) := rfl
  obtain ⟨k, b, n, s, la, ll, lc, ma, ml, mc, rfl⟩ := h.six
  go_enter Tryz.func18, Tryz.ntmps18
  go_wp2_with fail
  refine (CD.out _ (bbox hw _ hw.size) (by omega)).mono ?_
  rintro e w1 ⟨rfl, hb1⟩
  have hb2 := bunbox hb1 (Nat.le_refl _) (by simp)
  have hw1 := bstep hw hb2 hw.size
  have b0 := box_cell hb1 (o := 0) (by simp) rfl
  have b1 := box_cell hb1 (o := 1) (by simp) rfl
  have b2 := box_cell hb1 (o := 2) (by simp) rfl
  have b3 := box_cell hb1 (o := 3) (by simp) rfl
  have b4 := box_cell hb1 (o := 4) (by simp) rfl
  have b5 := box_cell hb1 (o := 5) (by simp) rfl
  by_cases h16 : 16 < t.depth
  · rw [if_pos h16] at HC
    have h16' : (16 : Int) < t.depth := by omega
    go_wp2_with fail
    go_ret
    exact ⟨ret_int HC.out.symm, hb2⟩
  rw [if_neg h16] at HC
  have h16' : ¬ (16 : Int) < t.depth := by omega
  go_wp2_with fail
  refine (CS.out _ hw1 (by omega)).mono ?_
  rintro e w2 ⟨rfl, hb3⟩
  have hb4 := bstep hb2 hb3 hb2.size
  have hw2 := bstep hw hb4 hw.size
  have hb13 := bstep hb1 hb3 hb1.size
  have c0 := box_cell hb13 (o := 0) (by simp) rfl
  have c1 := box_cell hb13 (o := 1) (by simp) rfl
  have c2 := box_cell hb13 (o := 2) (by simp) rfl
  have c3 := box_cell hb13 (o := 3) (by simp) rfl
  have c4 := box_cell hb13 (o := 4) (by simp) rfl
  have c5 := box_cell hb13 (o := 5) (by simp) rfl
  by_cases h46 : 4096 < t.size
  · rw [if_pos h46] at HC
    have h46' : (4096 : Int) < t.size := by omega
    go_wp2_with fail
    go_ret
    exact ⟨ret_int HC.out.symm, hb4⟩
  rw [if_neg h46] at HC
  have h46' : ¬ (4096 : Int) < t.size := by omega
  go_wp2_with fail
  refine (CP.out _ hw2).mono ?_
  rintro e w3 ⟨rfl, hb5⟩
  go_wp2_with fail
  go_ret
  exact ⟨ret_int HC.out.symm, bstep hb4 hb5 hb4.size⟩

/-- Small? -/
def T.light (t : T) : Bool := decide (t.weight 0 ≤ 6000)
theorem T.light_bulk {t : T} (h : t.light = true) : t.bulk ≤ 6000 := by
  have := weight_bulk t 0 (by simpa [T.light] using h)
  have h2 : t.weight 0 ≤ 6000 := by simpa [T.light] using h
  omega
theorem T.light_size {t : T} (h : t.light = true) : t.size ≤ 6000 := Nat.le_trans t.size_le_bulk (T.light_bulk h)

set_option maxHeartbeats 400000 in
theorem light_any {w0 : World} {R : Nat → Prop} {t : T} {cs : Array Value} (h : Lies w0 R t cs) (w : World) (hw : Below w0.heap.size w0 w) :
    Calls Tryz.prog 43 #[.agg cs] w fun e w' => e = .returned (.bool t.light) ∧ Below w.heap.size w w' := by
  have CW := Lib.hid (weight_any h 0)
  obtain ⟨k, b, n, s, la, ll, lc, ma, ml, mc, rfl⟩ := h.six
  go_enter Tryz.func43, Tryz.ntmps43
  go_wp2_with fail
  refine (CW.out _ (bbox hw _ hw.size) (by omega)).mono ?_
  rintro e w1 ⟨rfl, hb1⟩
  have hb2 := bunbox hb1 (Nat.le_refl _) (by simp)
  go_wp2_with fail
  go_ret
  exact ⟨ret_bool (decide_eq_decide.2 (by omega)), hb2⟩

/-- May it be, and is it small? -/
def T.good (t : T) : Bool := t.light && decide (t.check = 0)

def allGood (ts : List T) (j : Nat) : Bool := (ts.take j).all T.good
theorem allGood_zero (ts : List T) : allGood ts 0 = true := by simp [allGood]
theorem allGood_succ (ts : List T) (j : Nat) (h : j < ts.length) : allGood ts (j + 1) = (allGood ts j && ts[j].good) := by
  unfold allGood
  rw [List.take_succ_eq_append_getElem h, List.all_append]
  simp
theorem allGood_all (ts : List T) : allGood ts ts.length = ts.all T.good := by simp [allGood]
theorem allGood_bad (ts : List T) (j : Nat) (h : j < ts.length) (hb : ts[j].good = false) : ts.all T.good = false := by
  rw [List.all_eq_false]
  exact ⟨ts[j], List.getElem_mem h, by simp [hb]⟩

set_option maxHeartbeats 400000 in
theorem right_any {w0 : World} {R : Nat → Prop} {ts : List T} {a : Option Addr} {cap : Nat} {cl : Nat → Array Value} (h : SliceV w0 R ts a cap cl) (w : World) (hw : Below w0.heap.size w0 w) :
    Calls Tryz.prog 24 #[.slice a ts.length cap] w fun e w' => e = .returned (.bool (ts.all T.good)) ∧ Below w.heap.size w w' := by
  have hl := h.hdr
  have ll := hl.le
  have lx := hl.big
  have RL := Lib.hid h.rows
  have HA := Lib.hid (allGood_all ts)
  go_enter Tryz.func24, Tryz.ntmps24
  go_wp2_with fail
  go_loopw [7] (fun vi wr => ∃ j : Nat, j ≤ ts.length ∧ vi = .int .i64 j ∧ Hid (allGood ts j = true) ∧ Below w.heap.size w wr) (fun vi _ => ts.length - (intOf vi).toNat)
  case atStart => exact ⟨0, by omega, rfl, allGood_zero ts, Below.refl _ _⟩
  case round =>
    obtain ⟨j, hj, rfl, hg, hbw⟩ := hrel
    have hbw2 := bstep hw hbw hw.size
    by_cases hjl : j < ts.length
    · have CL := Lib.hid (light_any (h.each j hjl))
      have CC := Lib.hid (rCheck_any (h.each j hjl))
      have GS := Lib.hid (allGood_succ ts j hjl)
      have GB := Lib.hid (allGood_bad ts j hjl)
      obtain ⟨bl, ol, c0, c1, c2, c3, c4, c4l, c4c, c5, c5l, c5c, rfl, hc, r0, r1, r2, r3, r4, r5⟩ := openL hbw2 hl RL.out hjl (h.each j hjl)
      rw [hc] at CL CC
      clear hc
      go_wp2_with fail
      refine (CL.out _ (bbox hbw2 _ hbw2.size)).mono ?_
      rintro e w1 ⟨rfl, hb1⟩
      have hb2 := bstep hbw (bunbox hb1 (Nat.le_refl _) (by simp)) hbw.size
      cases hli : ts[j].light with
      | false =>
        have HB := Lib.hid (GB.out (by simp [T.good, hli]))
        clear hli
        go_wp2_with fail
        go_ret
        exact ⟨ret_bool HB.out.symm, hb2⟩
      | true =>
        have hsz := T.light_size hli
        have HLI := Lib.hid hli
        clear hli
        have b0 := box_cell hb1 (o := 0) (by simp) rfl
        have b1 := box_cell hb1 (o := 1) (by simp) rfl
        have b2 := box_cell hb1 (o := 2) (by simp) rfl
        have b3 := box_cell hb1 (o := 3) (by simp) rfl
        have b4 := box_cell hb1 (o := 4) (by simp) rfl
        have b5 := box_cell hb1 (o := 5) (by simp) rfl
        by_cases hck : ts[j].check = 0
        · have HK : (ts[j].check != 0) = false := by rw [hck]; rfl
          have HG := Lib.hid (show ts[j].good = true by simp [T.good, HLI.out, hck])
          clear hck
          go_wp2_with fail
          refine (CC.out _ (bstep hw hb2 hw.size) (by omega)).mono ?_
          rintro e w2 ⟨rfl, hb3⟩
          have hb4 := bstep hb2 hb3 hb2.size
          go_wp2_with fail
          go_roundw
          case rel => exact ⟨j + 1, by omega, by go_num, by show allGood ts (j + 1) = true; rw [GS.out, hg.out, HG.out]; rfl, hb4⟩
          case measure => simp [intOf]; omega
        · have HK : (ts[j].check != 0) = true := ne_form hck
          have HB := Lib.hid (GB.out (by simp [T.good, hck]))
          clear hck
          go_wp2_with fail
          refine (CC.out _ (bstep hw hb2 hw.size) (by omega)).mono ?_
          rintro e w2 ⟨rfl, hb3⟩
          have hb4 := bstep hb2 hb3 hb2.size
          go_wp2_with fail
          go_ret
          exact ⟨ret_bool HB.out.symm, hb4⟩
    · obtain rfl : j = ts.length := by omega
      have HE := Lib.hid (HA.out.symm.trans hg.out)
      go_wp2_with fail
      go_ret
      exact ⟨ret_bool HE.out.symm, hbw⟩

end Go.Proofs.YtlniokpekcoodaaGreatDoor

/-
  TreeOrders, walked.
-/
set_option linter.unusedVariables false
set_option linter.unusedSimpArgs false
namespace Go.Proofs.YtlniokpekcoodaaGreatDoor
open Go.RowKit Go.Sort

end Go.Proofs.YtlniokpekcoodaaGreatDoor

/-
  Package layer's Over, Plain.
-/
set_option linter.unusedVariables false
set_option linter.unusedSimpArgs false
namespace Go.Proofs.YtlniokpekcoodaaGreatDoor
open Go.RowKit Go.Sort

def OverIn (w : World) (t : T) (e : Ending) (w' : World) : Prop := ∃ ds, e = .returned (.agg ds) ∧ Lies w' (fun b => w.heap.size ≤ b) t ds ∧ Below w.heap.size w w'

set_option maxRecDepth 100000 in
set_option maxHeartbeats 4000000 in
theorem over_any {w0 : World} {R1 R2 : Nat → Prop} {t u : T} {cs ds : Array Value} (h1 : Lies w0 R1 t cs) (h2 : Lies w0 R2 u ds) (w : World) (hw : Below w0.heap.size w0 w) (hts : t.size ≤ 1000000) (hus : u.size ≤ 1000000) :
    Calls Tryz.prog 57 #[.agg cs, .agg ds] w (OverIn w (T.over t u)) := by
  have CT := Lib.hid (tClone_any h1)
  have H2 := Lib.hid h2
  obtain ⟨tk, tb, tn, tsr, tla, tll, tlc, tma, tml, tmc, rfl⟩ := h1.six
  obtain ⟨uk, ub, un, us, ula, ull, ulc, uma, uml, umc, rfl⟩ := h2.six
  clear h1 h2
  have h3 := Lib.hid ((((Below.refl w.heap.size w).alloc (Nat.le_refl _) (.cells #[.int .i64 tk, .bool tb, .int .i64 tn, .string tsr, .slice tla tll tlc, .slice tma tml tmc] 25)).alloc (by simp) (.cells #[.int .i64 uk, .bool ub, .int .i64 un, .string us, .slice ula ull ulc, .slice uma uml umc] 25)).alloc (by simp; omega) (.cells #[.int .i64 0, .bool false, .int .i64 0, .string ⟨#[]⟩, .slice none 0 0, .slice none 0 0] 25))
  obtain ⟨q0, q1, q2, q3⟩ := three_boxes (Below.refl (w.heap.size + 3) (((w.alloc (.cells #[.int .i64 tk, .bool tb, .int .i64 tn, .string tsr, .slice tla tll tlc, .slice tma tml tmc] 25)).alloc (.cells #[.int .i64 uk, .bool ub, .int .i64 un, .string us, .slice ula ull ulc, .slice uma uml umc] 25)).alloc (.cells #[.int .i64 0, .bool false, .int .i64 0, .string ⟨#[]⟩, .slice none 0 0, .slice none 0 0] 25))) (by omega)
  have hsz : (((w.alloc (.cells #[.int .i64 tk, .bool tb, .int .i64 tn, .string tsr, .slice tla tll tlc, .slice tma tml tmc] 25)).alloc (.cells #[.int .i64 uk, .bool ub, .int .i64 un, .string us, .slice ula ull ulc, .slice uma uml umc] 25)).alloc (.cells #[.int .i64 0, .bool false, .int .i64 0, .string ⟨#[]⟩, .slice none 0 0, .slice none 0 0] 25)).heap.size = w.heap.size + 3 := by simp
  go_enter Tryz.func57, Tryz.ntmps57
  go_wp2_with fail
  generalize hv : ((w.alloc (.cells #[.int .i64 tk, .bool tb, .int .i64 tn, .string tsr, .slice tla tll tlc, .slice tma tml tmc] 25)).alloc (.cells #[.int .i64 uk, .bool ub, .int .i64 un, .string us, .slice ula ull ulc, .slice uma uml umc] 25)).alloc (.cells #[.int .i64 0, .bool false, .int .i64 0, .string ⟨#[]⟩, .slice none 0 0, .slice none 0 0] 25) = v at *
  have Q2 := Lib.hid q2
  have Q3 := Lib.hid q3
  have SK : Hid (∀ wx : World, (∀ b, b < w.heap.size + 2 → wx.heap[b]? = v.heap[b]?) → wx.cell? ⟨w.heap.size, 0, none⟩ = some (.int .i64 tk) ∧ wx.cell? ⟨w.heap.size, 1, none⟩ = some (.bool tb) ∧ wx.cell? ⟨w.heap.size, 2, none⟩ = some (.int .i64 tn) ∧ wx.cell? ⟨w.heap.size, 3, none⟩ = some (.string tsr) ∧ wx.cell? ⟨w.heap.size, 4, none⟩ = some (.slice tla tll tlc) ∧ wx.cell? ⟨w.heap.size, 5, none⟩ = some (.slice tma tml tmc) ∧ wx.cell? ⟨w.heap.size + 1, 0, none⟩ = some (.int .i64 uk) ∧ wx.cell? ⟨w.heap.size + 1, 1, none⟩ = some (.bool ub) ∧ wx.cell? ⟨w.heap.size + 1, 2, none⟩ = some (.int .i64 un) ∧ wx.cell? ⟨w.heap.size + 1, 3, none⟩ = some (.string us) ∧ wx.cell? ⟨w.heap.size + 1, 4, none⟩ = some (.slice ula ull ulc) ∧ wx.cell? ⟨w.heap.size + 1, 5, none⟩ = some (.slice uma uml umc)) := fun wx hx => by
    have e0 : ∀ j', wx.cell? ⟨w.heap.size, j', none⟩ = _ := fun j' => (World.cell?_of_block (hx w.heap.size (by omega))).trans (q0 j')
    have e1 : ∀ j', wx.cell? ⟨w.heap.size + 1, j', none⟩ = _ := fun j' => (World.cell?_of_block (hx (w.heap.size + 1) (by omega))).trans (q1 j')
    exact ⟨e0 0, e0 1, e0 2, e0 3, e0 4, e0 5, e1 0, e1 1, e1 2, e1 3, e1 4, e1 5⟩
  have hwv := Lib.hid (bstep hw h3.out hw.size)
  clear q0 q1 q2 q3 hv
  go_region_held3 (fun wx : World => wx.cell? ⟨w.heap.size, 0, none⟩ = some (.int .i64 tk) ∧ wx.cell? ⟨w.heap.size, 1, none⟩ = some (.bool tb) ∧ wx.cell? ⟨w.heap.size, 2, none⟩ = some (.int .i64 tn) ∧ wx.cell? ⟨w.heap.size, 3, none⟩ = some (.string tsr) ∧ wx.cell? ⟨w.heap.size, 4, none⟩ = some (.slice tla tll tlc) ∧ wx.cell? ⟨w.heap.size, 5, none⟩ = some (.slice tma tml tmc) ∧ wx.cell? ⟨w.heap.size + 1, 0, none⟩ = some (.int .i64 uk) ∧ wx.cell? ⟨w.heap.size + 1, 1, none⟩ = some (.bool ub) ∧ wx.cell? ⟨w.heap.size + 1, 2, none⟩ = some (.int .i64 un) ∧ wx.cell? ⟨w.heap.size + 1, 3, none⟩ = some (.string us) ∧ wx.cell? ⟨w.heap.size + 1, 4, none⟩ = some (.slice ula ull ulc) ∧ wx.cell? ⟨w.heap.size + 1, 5, none⟩ = some (.slice uma uml umc))
    (first
      | with_reducible exact SK.out _ hs6
      | with_reducible exact SK.out _ hq5
      | with_reducible exact SK.out _ hq4
      | exact SK.out _ (fun _ _ => rfl)
      | fail)
    (first
      | (go_at_call 52
         refine (CT.out _ hwv.out.drew).mono ?_
         rintro e w4 ⟨dq, rfl, hLq, hb4⟩
         obtain ⟨d0, d1, d2, d3, d4, d4l, d4c, d5, d5l, d5c, rfl⟩ := hLq.six
         have hV4 : Below v.heap.size v w4 := undrew hb4
         have hq4 : ∀ b, b < w.heap.size + 2 → w4.heap[b]? = v.heap[b]? := fun b hb => hV4.block b (by omega))
      | (go_at_call 82
         refine (laid_any (H2.out.later (bstep hwv.out hV4 hwv.out.size)) hLq _ (Below.refl _ _) hts hus).mono ?_
         rintro e w5 ⟨dr, rfl, hLr, hb5⟩
         obtain ⟨e0, e1, e2, e3, e4, e4l, e4c, e5, e5l, e5c, rfl⟩ := hLr.six
         have hV5 : Below v.heap.size v w5 := bstep hV4 hb5 hV4.size
         have hq5 : ∀ b, b < w.heap.size + 2 → w5.heap[b]? = v.heap[b]? := fun b hb => hV5.block b (by omega)
         have y3 : ∀ j, w5.cell? ⟨w.heap.size + 1 + 1, j, none⟩ = _ := fun j => (hV5.cell (p := ⟨w.heap.size + 2, j, none⟩) (by simp only; omega)).trans (Q2.out j)
         have y4 : ∀ j, w5.frozen? ⟨w.heap.size + 1 + 1, j, none⟩ = false := fun j => (hV5.frozen (p := ⟨w.heap.size + 2, j, none⟩) (by simp only; omega)).trans (Q3.out j)
         have hs6 : ∀ b, b < w.heap.size + 2 → (setRow w5 (w.heap.size + 1 + 1) 0 [.int .i64 e0, .bool e1, .int .i64 e2, .string e3, .slice e4 e4l e4c, .slice e5 e5l e5c]).heap[b]? = v.heap[b]? := fun b hb => (setRow_heap _ _ _ _ _ (by omega)).trans (hq5 b hb)
         simp only [setRow, Nat.zero_add, Nat.reduceAdd] at hs6))
  have hg4 := hV4.size
  go_wp2_with fail
  obtain ⟨dd, hu, hdd⟩ := Tryz.structV
  refine ret_cells w5 (w.heap.size + 2) [.int .i64 e0, .bool e1, .int .i64 e2, .string e3, .slice e4 e4l e4c, .slice e5 e5l e5c] rfl Tryz.results57 rfl rfl hdd hu Tryz.sizeV (fun i hi => ⟨_, (y3 i).trans (Array.getElem?_eq_getElem (show i < 6 from hi))⟩) ?_
  refine ⟨_, rfl, (hLr.keep (fun x hx => setRow_heap _ _ _ _ _ ?_)).weaken (fun x hx => ?_), setRow_below _ (by omega) _ _ _ (bstep h3.out hV5 (by omega))⟩
  · simp only [World.size_drew] at hx; omega
  · simp only [World.size_drew] at hx; omega

end Go.Proofs.YtlniokpekcoodaaGreatDoor

/-
  What counts as true: package tree's Truth and the reference's.
-/
set_option linter.unusedVariables false
set_option linter.unusedSimpArgs false
namespace Go.Proofs.YtlniokpekcoodaaGreatDoor
open Go.RowKit Go.Sort

def nz (n : Int) : Bool := n != 0
def ne0 (s : ByteArray) : Bool := !s.toList.isEmpty
def pos (n : Nat) : Bool := decide (0 < n)

theorem isKind_any (k : Int) (w : World) : Calls Tryz.prog 138 #[.int .i64 k] w fun e w' => e = .returned (.bool (decide (0 ≤ k) && decide (k ≤ 5))) ∧ w = w' := by
  by_cases h0 : 0 ≤ k
  · by_cases h5 : k ≤ 5
    · go_enter Tryz.func138, Tryz.ntmps138
      go_wp2_with fail
      go_ret
      exact ⟨ret_bool (by simp [h0, h5]), rfl⟩
    · go_enter Tryz.func138, Tryz.ntmps138
      go_wp2_with fail
      go_ret
      exact ⟨ret_bool (by simp [h0, h5]), rfl⟩
  · go_enter Tryz.func138, Tryz.ntmps138
    go_wp2_with fail
    go_ret
    exact ⟨ret_bool (by simp; omega), rfl⟩

theorem Tryz.structB : ∃ d, Tryz.prog.underlying 148 = some d ∧ (match d with | .struct _ | .array _ _ => true | _ => false) = true := ⟨_, Tryz.underlying148, rfl⟩
theorem Tryz.sizeB : (Tryz.prog.info? 148).map (·.size) = some 6 := by kernel_rfl

theorem tparts_any (k : Int) (b : Bool) (n : Int) (s : ByteArray) (la : Option Addr) (ll lc : Nat) (ma : Option Addr) (ml mc : Nat) (w : World) :
    Calls Tryz.prog 139 #[.agg #[.int .i64 k, .bool b, .int .i64 n, .string s, .slice la ll lc, .slice ma ml mc]] w fun e w' => e = .returned (.agg #[.bool false, .bool b, .bool (nz n), .bool (ne0 s), .bool (pos ll), .bool (pos ml)]) ∧ Below w.heap.size w w' := by
  go_enter Tryz.func139, Tryz.ntmps139
  go_wp2_with fail
  obtain ⟨dd, hu, hdd⟩ := Tryz.structB
  refine ret_read (w.heap.size + 1) #[.bool false, .bool b, .bool (nz n), .bool (ne0 s), .bool (pos ll), .bool (pos ml)] Tryz.results139 rfl rfl hdd hu Tryz.sizeB (fun i hi => ?_) ?_
  · rw [show w.heap.size + 1 = (w.alloc (.cells #[.int .i64 k, .bool b, .int .i64 n, .string s, .slice la ll lc, .slice ma ml mc] 25)).heap.size by simp, World.cell?_alloc_new]
    exact Array.getElem?_eq_getElem hi
  · exact ⟨rfl, ((Below.refl _ _).alloc (Nat.le_refl _) _).alloc (by simp) _⟩

/-- What counts as true. -/
def countsB (k : Int) (b : Bool) (n : Int) (s : ByteArray) (ll ml : Nat) : Bool := if k = 1 then b else if k = 2 then nz n else if k = 3 then ne0 s else if k = 4 then pos ll else if k = 5 then pos ml else false

theorem Tryz.index_bools (b : Bool) (n : Int) (s : ByteArray) (ll ml : Nat) (w : World) :
    (Instr.index 148 (.agg #[.bool false, .bool b, .bool (nz n), .bool (ne0 s), .bool (pos ll), .bool (pos ml)]) (.int .i64 0)).run Tryz.prog w = .ok (.bool false) w ∧
    (Instr.index 148 (.agg #[.bool false, .bool b, .bool (nz n), .bool (ne0 s), .bool (pos ll), .bool (pos ml)]) (.int .i64 1)).run Tryz.prog w = .ok (.bool b) w ∧
    (Instr.index 148 (.agg #[.bool false, .bool b, .bool (nz n), .bool (ne0 s), .bool (pos ll), .bool (pos ml)]) (.int .i64 2)).run Tryz.prog w = .ok (.bool (nz n)) w ∧
    (Instr.index 148 (.agg #[.bool false, .bool b, .bool (nz n), .bool (ne0 s), .bool (pos ll), .bool (pos ml)]) (.int .i64 3)).run Tryz.prog w = .ok (.bool (ne0 s)) w ∧
    (Instr.index 148 (.agg #[.bool false, .bool b, .bool (nz n), .bool (ne0 s), .bool (pos ll), .bool (pos ml)]) (.int .i64 4)).run Tryz.prog w = .ok (.bool (pos ll)) w ∧
    (Instr.index 148 (.agg #[.bool false, .bool b, .bool (nz n), .bool (ne0 s), .bool (pos ll), .bool (pos ml)]) (.int .i64 5)).run Tryz.prog w = .ok (.bool (pos ml)) w := by
  refine ⟨?_, ?_, ?_, ?_, ?_, ?_⟩ <;> kernel_rfl

end Go.Proofs.YtlniokpekcoodaaGreatDoor
