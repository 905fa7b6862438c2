/-
  How much a value has, up to a bound: what the laws let in.
-/
import Derived.Test.YtbmlmcoepmbelaaDoorVals
import Derived.Lib.QuietBelow
set_option linter.unusedVariables false
set_option linter.unusedSimpArgs false
namespace Go.Proofs.YtbmlmcoepmbelaaDoor
open Go.RowKit Go.Sort

/-- Sums, as long as they are at most 6000: what they come to, and whether they passed that. -/
def addUp : Nat → List Nat → Nat × Bool
  | a, [] => (a, false)
  | a, x :: r => if 6000 < a + x then (a + x, true) else addUp (a + x) r

def T.weight : T → Nat → Nat
  | .mk _ _ _ s l m, d => if 40 < d then 1048576 else
    let r := addUp (1 + s.size) (l.map fun x => T.weight x (d + 1))
    if r.2 then r.1 else (addUp r.1 (m.map fun p => T.weight p.2 (d + 1) + p.1.size)).1
termination_by t => t
decreasing_by
  · exact T.lt_l ‹_›
  · exact T.lt_m ‹_›
theorem T.weight_mk (k : Int) (b : Bool) (n : Int) (s : ByteArray) (l : List T) (m : List (ByteArray × T)) (d : Nat) : (T.mk k b n s l m).weight d = if 40 < d then 1048576 else
    if (addUp (1 + s.size) (l.map fun x => T.weight x (d + 1))).2 then (addUp (1 + s.size) (l.map fun x => T.weight x (d + 1))).1 else (addUp (addUp (1 + s.size) (l.map fun x => T.weight x (d + 1))).1 (m.map fun p => T.weight p.2 (d + 1) + p.1.size)).1 := by
  rw [T.weight]

theorem addUp_le {B : Nat} : ∀ (l : List Nat) (a : Nat), (∀ x ∈ l, x ≤ B) → (addUp a l).1 ≤ max a 6000 + B
  | [], a, _ => by simp only [addUp]; omega
  | x :: r, a, h => by
    have h1 := h x (by simp)
    simp only [addUp]
    split
    · simp only; omega
    · have := addUp_le r (a + x) (fun y hy => h y (by simp [hy]))
      omega
theorem addUp_on : ∀ (l : List Nat) (a : Nat), (addUp a l).2 = false → (addUp a l).1 ≤ max a 6000
  | [], a, _ => by simp only [addUp]; omega
  | x :: r, a, h => by
    simp only [addUp] at h ⊢
    split at h
    · cases h
    · rename_i hx
      rw [if_neg hx]
      have := addUp_on r _ h
      omega
/-- While it goes on, it is the plain sum. -/
theorem addUp_sum : ∀ (l : List Nat) (a : Nat), (addUp a l).2 = false → (addUp a l).1 = a + l.sum
  | [], a, _ => by simp [addUp]
  | x :: r, a, h => by
    simp only [addUp] at h ⊢
    split at h
    · cases h
    · rename_i hx
      rw [if_neg hx, addUp_sum r _ h]; simp; omega
theorem addUp_stop : ∀ (l : List Nat) (a : Nat), (addUp a l).2 = true → 6000 < (addUp a l).1
  | [], a, h => by simp [addUp] at h
  | x :: r, a, h => by
    simp only [addUp] at h ⊢
    split at h
    · rename_i hx; rw [if_pos hx]; exact hx
    · rename_i hx; rw [if_neg hx]; exact addUp_stop r _ h
theorem addUp_snoc (x : Nat) : ∀ (l : List Nat) (a : Nat), (addUp a l).2 = false → addUp a (l ++ [x]) = if 6000 < (addUp a l).1 + x then ((addUp a l).1 + x, true) else ((addUp a l).1 + x, false)
  | [], a, _ => rfl
  | y :: r, a, h => by
    by_cases hx : 6000 < a + y
    · rw [addUp, if_pos hx] at h; cases h
    · rw [addUp, if_neg hx] at h
      rw [List.cons_append, addUp, if_neg hx, addUp_snoc x r _ h]
      have e : addUp a (y :: r) = addUp (a + y) r := by rw [addUp, if_neg hx]
      rw [e]
theorem addUp_app (r : List Nat) : ∀ (l : List Nat) (a : Nat), (addUp a l).2 = true → addUp a (l ++ r) = addUp a l
  | [], a, h => by simp [addUp] at h
  | y :: q, a, h => by
    simp only [addUp, List.cons_append] at h ⊢
    split at h
    · rename_i hx; rw [if_pos hx, if_pos hx]
    · rename_i hx; rw [if_neg hx, if_neg hx, addUp_app r q _ h]

/-- .. over the first j. -/
def pacc {α : Type} (f : α → Nat) (a : Nat) (l : List α) (j : Nat) : Nat × Bool := addUp a ((l.take j).map f)
theorem pacc_zero {α : Type} (f : α → Nat) (a : Nat) (l : List α) : pacc f a l 0 = (a, false) := by simp [pacc, addUp]
theorem pacc_succ {α : Type} (f : α → Nat) (a : Nat) (l : List α) (j : Nat) (h : j < l.length) (hn : (pacc f a l j).2 = false) : pacc f a l (j + 1) = if 6000 < (pacc f a l j).1 + f l[j] then ((pacc f a l j).1 + f l[j], true) else ((pacc f a l j).1 + f l[j], false) := by
  unfold pacc at hn ⊢
  rw [List.take_succ_eq_append_getElem h, List.map_append, List.map_cons, List.map_nil, addUp_snoc _ _ _ hn]
theorem pacc_all {α : Type} (f : α → Nat) (a : Nat) (l : List α) : pacc f a l l.length = addUp a (l.map f) := by simp [pacc]
theorem pacc_stop {α : Type} (f : α → Nat) (a : Nat) (l : List α) (j : Nat) (h : (pacc f a l j).2 = true) : addUp a (l.map f) = pacc f a l j := by
  unfold pacc at h ⊢
  conv => lhs; rw [← List.take_append_drop j l]
  rw [List.map_append, addUp_app _ _ _ h]
theorem pacc_on {α : Type} (f : α → Nat) (a : Nat) (l : List α) (j : Nat) (h : (pacc f a l j).2 = false) : (pacc f a l j).1 ≤ max a 6000 := addUp_on _ _ h

/-- A bound on what it comes to, d deep. -/
def wtop (d : Nat) : Nat := 1048576 + (41 - d) * 562949953421312
theorem wtop_succ (d : Nat) (h : d ≤ 40) : wtop d = wtop (d + 1) + 562949953421312 := by
  unfold wtop
  rw [show 41 - d = (41 - (d + 1)) + 1 from by omega, Nat.add_mul]
  omega
theorem wtop_le (d : Nat) : wtop d ≤ 23081000000000000 := by
  unfold wtop
  have : (41 - d) * 562949953421312 ≤ 41 * 562949953421312 := Nat.mul_le_mul_right _ (by omega)
  omega

theorem wt_arith0 {b c s B L U : Nat} (h2 : b ≤ max (1 + s) 6000) (h3 : c ≤ max b 6000 + (B + L)) (hs : s ≤ L) (hL : 6000 ≤ L) (hU : L + L + 1 ≤ U) : c ≤ B + U := by omega
theorem wt_arith {b c s B : Nat} (h2 : b ≤ max (1 + s) 6000) (h3 : c ≤ max b 6000 + (B + 140737488355328)) (hs : s ≤ 140737488355328) : c ≤ B + 562949953421312 := wt_arith0 h2 h3 hs (by decide) (by decide)
theorem wt_arith1 {b s B : Nat} (h1 : b ≤ max (1 + s) 6000 + B) (hs : s ≤ 140737488355328) : b ≤ B + 562949953421312 := by omega

theorem weight_le {w : World} {R : Nat → Prop} {t : T} {cs : Array Value} (h : Lies w R t cs) : ∀ d : Nat, d ≤ 41 → t.weight d ≤ wtop d := by
  induction h with
  | mk k b n s l m la lc ma mc cl cm hk hn hs hl hm rl rm ks il im ihl ihm =>
    intro d hd
    rw [T.weight_mk]
    by_cases h40 : 40 < d
    · rw [if_pos h40]; unfold wtop; omega
    · rw [if_neg h40, wtop_succ d (by omega)]
      have hL : ∀ x ∈ l.map (fun x => T.weight x (d + 1)), x ≤ wtop (d + 1) := fun x hx => by
        obtain ⟨y, hy, rfl⟩ := List.mem_map.1 hx
        obtain ⟨i, hi, rfl⟩ := List.getElem_of_mem hy
        exact ihl i hi (d + 1) (by omega)
      have hM : ∀ x ∈ m.map (fun p => T.weight p.2 (d + 1) + p.1.size), x ≤ wtop (d + 1) + 140737488355328 := fun x hx => by
        obtain ⟨y, hy, rfl⟩ := List.mem_map.1 hx
        obtain ⟨i, hi, rfl⟩ := List.getElem_of_mem hy
        exact Nat.add_le_add (ihm i hi (d + 1) (by omega)) (ks i hi)
      obtain ⟨B, hB⟩ : ∃ B, B = wtop (d + 1) := ⟨_, rfl⟩
      rw [← hB] at hL hM ⊢
      clear hB
      have h1 := addUp_le _ (1 + s.size) hL
      by_cases hst : (addUp (1 + s.size) (l.map fun x => T.weight x (d + 1))).2 = true
      · rw [if_pos hst]; exact wt_arith1 h1 hs
      · rw [if_neg hst]
        exact wt_arith (addUp_on _ _ (by simpa using hst)) (addUp_le _ (addUp (1 + s.size) (l.map fun x => T.weight x (d + 1))).1 hM) hs

/-- What passes the bound alone doesn't tell its bulk. -/
theorem weight_bulk (t : T) : ∀ d : Nat, t.weight d ≤ 6000 → t.bulk = t.weight d := by
  induction t using T.ind with
  | h k b n s l m hl hm =>
    intro d h
    rw [T.weight_mk] at h ⊢
    by_cases h40 : 40 < d
    · rw [if_pos h40] at h; omega
    · rw [if_neg h40] at h ⊢
      by_cases h1 : (addUp (1 + s.size) (l.map fun x => T.weight x (d + 1))).2 = true
      · rw [if_pos h1] at h
        have := addUp_stop _ _ h1
        omega
      · rw [if_neg h1] at h ⊢
        have h1' : (addUp (1 + s.size) (l.map fun x => T.weight x (d + 1))).2 = false := by simpa using h1
        have e1 := addUp_sum _ _ h1'
        have o1 := addUp_on _ _ h1'
        rw [e1] at h ⊢
        by_cases h2 : (addUp (1 + s.size + (l.map fun x => T.weight x (d + 1)).sum) (m.map fun p => T.weight p.2 (d + 1) + p.1.size)).2 = true
        · have := addUp_stop _ _ h2
          omega
        · have e2 := addUp_sum _ _ (by simpa using h2)
          rw [e2] at h ⊢
          rw [T.bulk_mk]
          have c1 : l.map T.bulk = l.map fun x => T.weight x (d + 1) := List.map_congr_left fun x hx => hl x hx (d + 1) (by
            have := le_sum (List.mem_map.2 ⟨x, hx, rfl⟩ : T.weight x (d + 1) ∈ l.map fun x => T.weight x (d + 1))
            omega)
          have c2 : (m.map fun p => p.2.bulk + p.1.size) = m.map fun p => T.weight p.2 (d + 1) + p.1.size := List.map_congr_left fun q hq => by
            have := le_sum (List.mem_map.2 ⟨q, hq, rfl⟩ : T.weight q.2 (d + 1) + q.1.size ∈ m.map fun p => T.weight p.2 (d + 1) + p.1.size)
            rw [hm q hq (d + 1) (by omega)]
          rw [c1, c2]

set_option maxHeartbeats 400000 in
theorem weight_any {w0 : World} {R : Nat → Prop} {t : T} {cs : Array Value} (h : Lies w0 R t cs) : ∀ (d : Nat) (w : World), Below w0.heap.size w0 w → d ≤ 41 →
    Calls Tryd.prog 23 #[.agg cs, .int .i64 d] w fun e w' => e = .returned (.int .i64 (t.weight d)) ∧ Below w.heap.size w w' := by
  induction h with
  | mk k b n s l m la lc ma mc cl cm hk hn hs hl hm rl rm ks il im ihl ihm =>
    intro d w hw hd
    have ll := hl.le
    have lx := hl.big
    have ml := hm.le
    have mx := hm.big
    have HL := Lib.hid ihl
    have HM := Lib.hid ihm
    have RL := Lib.hid rl
    have RM := Lib.hid rm
    have HS := Lib.hid (T.weight_mk k b n s l m d)
    clear ihl ihm rl rm
    by_cases h40 : 40 < d
    · rw [if_pos h40] at HS
      have h40' : (40 : Int) < d := by omega
      go_enter Tryd.func23, Tryd.ntmps23
      go_wp2_with fail
      go_ret
      exact ⟨ret_int (by rw [HS.out]; rfl), (Below.refl _ _).alloc (Nat.le_refl _) _⟩
    rw [if_neg h40] at HS
    have h40' : ¬ (40 : Int) < d := by omega
    have HA := Lib.hid (pacc_all (fun x => T.weight x (d + 1)) (1 + s.size) l)
    go_enter Tryd.func23, Tryd.ntmps23
    go_wp2_with fail
    go_loopw [5, 19] (fun vn vi wr => ∃ j : Nat, j ≤ l.length ∧ vi = .int .i64 j ∧ vn = .int .i64 ↑(pacc (fun x => T.weight x (d + 1)) (1 + s.size) l j).1 ∧ (pacc (fun x => T.weight x (d + 1)) (1 + s.size) l j).2 = false ∧ Below (w.heap.size + 1) (w.alloc (.cells #[.int .i64 k, .bool b, .int .i64 n, .string s, .slice la l.length lc, .slice ma m.length mc] 25)) wr) (fun _ vi _ => l.length - (intOf vi).toNat)
    case atStart => exact ⟨0, by omega, rfl, by rw [pacc_zero]; exact val_int (by simp), by rw [pacc_zero], Below.refl _ _⟩
    case round =>
      obtain ⟨j, hj, rfl, rfl, hon, hbw⟩ := hrel
      have hsz := hbw.size
      rw [World.size_alloc] at hsz
      have hbw2 := bstep hw (bunbox hbw (Nat.le_refl _) (by omega)) hw.size
      have hpo := pacc_on _ _ _ _ hon
      have HN := Lib.hid hon
      clear hon
      by_cases hjl : j < l.length
      · have hi := HL.out j hjl (d + 1)
        obtain ⟨bl, ol, c0, c1, c2, c3, c4, c4l, c4c, c5, c5l, c5c, rfl, hc, r0, r1, r2, r3, r4, r5⟩ := openL hbw2 hl RL.out hjl (il j hjl)
        rw [hc] at hi
        have hwl := weight_le (il j hjl) (d + 1) (by omega)
        have hwt := wtop_le (d + 1)
        have hs1 := pacc_succ (fun x => T.weight x (d + 1)) (1 + s.size) l j hjl HN.out
        have hst := pacc_stop (fun x => T.weight x (d + 1)) (1 + s.size) l (j + 1)
        have hlim : (pacc (fun x => T.weight x (d + 1)) (1 + s.size) l j).1 + l[j].weight (d + 1) ≤ 4611686018427387904 := by omega
        have HI := Lib.hid hi
        have HS1 := Lib.hid hs1
        have HST := Lib.hid hst
        clear hc hi hs1 hst hwl hwt
        by_cases h6 : 6000 < (pacc (fun x => T.weight x (d + 1)) (1 + s.size) l j).1 + l[j].weight (d + 1)
        all_goals
          have h6' := h6
          go_wp2_with fail
          refine (HI.out _ (bbox hbw2 _ hbw2.size) (by omega)).mono ?_
          rintro e w1 ⟨rfl, hb1⟩
          have hb2 := bstep hbw (bunbox hb1 (Nat.le_refl _) (by simp)) (by omega)
          go_wp2_with fail
        · go_ret
          have e1 := HS1.out
          rw [if_pos h6'] at e1
          have e2 := HST.out (by rw [e1])
          exact ⟨ret_int (by rw [HS.out, e2, e1, if_pos rfl]; simp), bunbox hb2 (Nat.le_refl _) (by omega)⟩
        · go_roundw
          have e1 := HS1.out
          rw [if_neg h6'] at e1
          case rel => exact ⟨j + 1, by omega, by go_num, by rw [e1]; exact val_int (by simp), by rw [e1], hb2⟩
          case measure => simp [intOf]; omega
      · obtain rfl : j = l.length := by omega
        have b5 := box_cell hbw (o := 5) (by omega) rfl
        rw [HA.out] at hpo
        have hon2 := HN.out
        rw [HA.out] at hon2
        rw [hon2, if_neg (by simp)] at HS
        have HS2 := Lib.hid HS
        clear hon2 HS
        rw [HA.out]
        go_wp2_with fail
        obtain ⟨wo, rfl⟩ : ∃ wo : World, wo = wr := ⟨_, rfl⟩
        have HO := Lib.hid hbw
        obtain ⟨a0, ha0⟩ : ∃ a0, a0 = (addUp (1 + s.size) (l.map fun x => T.weight x (d + 1))).1 := ⟨_, rfl⟩
        rw [← ha0] at hpo HS2 ⊢
        clear ha0
        have HB := Lib.hid (pacc_all (fun p : ByteArray × T => T.weight p.2 (d + 1) + p.1.size) a0 m)
        go_loopw [5, 36] (fun vn vi wr => ∃ j : Nat, j ≤ m.length ∧ vi = .int .i64 j ∧ vn = .int .i64 ↑(pacc (fun p : ByteArray × T => T.weight p.2 (d + 1) + p.1.size) a0 m j).1 ∧ (pacc (fun p : ByteArray × T => T.weight p.2 (d + 1) + p.1.size) a0 m j).2 = false ∧ Below wo.heap.size wo wr) (fun _ vi _ => m.length - (intOf vi).toNat)
        case atStart => exact ⟨0, by omega, rfl, by rw [pacc_zero], by rw [pacc_zero], Below.refl _ _⟩
        case round =>
          obtain ⟨j, hj, rfl, rfl, hon, hbx⟩ := hrel
          have hbx2 := bstep hbw2 hbx hbw2.size
          have hpo := pacc_on _ _ _ _ hon
          have HN := Lib.hid hon
          clear hon
          by_cases hjm : j < m.length
          · have hi := HM.out j hjm (d + 1)
            obtain ⟨bl, ol, c0, c1, c2, c3, c4, c4l, c4c, c5, c5l, c5c, rfl, hc, r0, r1, r2, r3, r4, r5, r6⟩ := openM hbx2 hm RM.out hjm (im j hjm)
            rw [hc] at hi
            have hwl := weight_le (im j hjm) (d + 1) (by omega)
            have hwt := wtop_le (d + 1)
            have hks := ks j hjm
            have hs1 := pacc_succ (fun p : ByteArray × T => T.weight p.2 (d + 1) + p.1.size) a0 m j hjm HN.out
            have hst := pacc_stop (fun p : ByteArray × T => T.weight p.2 (d + 1) + p.1.size) a0 m (j + 1)
            have e1 : IntKind.i64.wrap ((d : Int) + 1) = (d : Int) + 1 := IntWalk.i64_in _ (by omega)
            have e2 : IntKind.i64.wrap ((m[j].2.weight (d + 1) : Int) + (m[j].1.size : Int)) = (m[j].2.weight (d + 1) : Int) + (m[j].1.size : Int) := IntWalk.i64_in _ (by omega)
            have e3 : IntKind.i64.wrap (((pacc (fun p : ByteArray × T => T.weight p.2 (d + 1) + p.1.size) a0 m j).1 : Int) + ((m[j].2.weight (d + 1) : Int) + (m[j].1.size : Int))) = ((pacc (fun p : ByteArray × T => T.weight p.2 (d + 1) + p.1.size) a0 m j).1 : Int) + ((m[j].2.weight (d + 1) : Int) + (m[j].1.size : Int)) := IntWalk.i64_in _ (by omega)
            have HI := Lib.hid hi
            have HS1 := Lib.hid hs1
            have HST := Lib.hid hst
            clear hc hi hs1 hst hwl hwt hks
            go_wp2_with fail
            obtain ⟨W2, hW2⟩ : ∃ W2, W2 = wr.alloc (.cells #[.string m[j].1, .int .i64 c0, .bool c1, .int .i64 c2, .string c3, .slice c4 c4l c4c, .slice c5 c5l c5c] 54) := ⟨_, rfl⟩
            have hbW : Below wo.heap.size wo W2 := by rw [hW2]; exact bbox hbx _ hbx.size
            have hbW2 : Below w0.heap.size w0 W2 := by rw [hW2]; exact bbox hbx2 _ hbx2.size
            have q0 : W2.cell? ⟨wr.heap.size, 0, none⟩ = some (.string m[j].1) := by rw [hW2]; simp
            have q1 : W2.cell? ⟨wr.heap.size, 1, none⟩ = some (.int .i64 c0) := by rw [hW2]; simp
            have q2 : W2.cell? ⟨wr.heap.size, 2, none⟩ = some (.bool c1) := by rw [hW2]; simp
            have q3 : W2.cell? ⟨wr.heap.size, 3, none⟩ = some (.int .i64 c2) := by rw [hW2]; simp
            have q4 : W2.cell? ⟨wr.heap.size, 4, none⟩ = some (.string c3) := by rw [hW2]; simp
            have q5 : W2.cell? ⟨wr.heap.size, 5, none⟩ = some (.slice c4 c4l c4c) := by rw [hW2]; simp
            have q6 : W2.cell? ⟨wr.heap.size, 6, none⟩ = some (.slice c5 c5l c5c) := by rw [hW2]; simp
            rw [← hW2]
            clear hW2
            have k0 := cell_regrown q0
            have k1 := cell_regrown q1
            have k2 := cell_regrown q2
            have k3 := cell_regrown q3
            have k4 := cell_regrown q4
            have k5 := cell_regrown q5
            have k6 := cell_regrown q6
            have cQ : ∀ dd os, Calls Tryd.prog 23 #[.agg #[.int .i64 c0, .bool c1, .int .i64 c2, .string c3, .slice c4 c4l c4c, .slice c5 c5l c5c], .int .i64 ((d : Int) + 1)] (grow (redrawn W2 dd) os) fun e w'' => e = .returned (.int .i64 (m[j].2.weight (d + 1))) ∧ ∃ p : Regrown, w'' = grow (redrawn W2 p.d) p.os :=
              fun dd os => Calls.regrown_of (HI.out _ (bstep hbW2 (below_regrown W2 dd os) hbW2.size) (by omega))
            by_cases h6 : 6000 < (pacc (fun p : ByteArray × T => T.weight p.2 (d + 1) + p.1.size) a0 m j).1 + (m[j].2.weight (d + 1) + m[j].1.size)
            all_goals
              have h6' := h6
              refine wp_region_quiet_below (by kernel_rfl) (by kernel_rfl) ?_
              repeat (go_big_quiet_step (exact cQ _ _))
              refine wpQuiet_nil ?_
              intro _ hw'
              obtain ⟨⟨dq, osq⟩, hw''⟩ := hw'
              subst hw''
              have hbq := below_regrown W2 dq osq
              simp only []
              generalize grow (redrawn W2 dq) osq = w1 at hbq ⊢
              have hbz := bstep hbW hbq hbW.size
              clear e1 e2 e3 cQ k0 k1 k2 k3 k4 k5 k6 q0 q1 q2 q3 q4 q5 q6
              go_wp2_with fail
            · go_ret
              have e1 := HS1.out
              rw [if_pos h6'] at e1
              have e2 := HST.out (by rw [e1])
              exact ⟨ret_int (by rw [HS2.out, e2, e1]; simp), bstep (bunbox HO.out (Nat.le_refl _) (by omega)) hbz (by have := HO.out.size; simp at this; omega)⟩
            · go_roundw
              have e1 := HS1.out
              rw [if_neg h6'] at e1
              case rel => exact ⟨j + 1, by omega, by go_num, by rw [e1]; exact val_int (by simp), by rw [e1], hbz⟩
              case measure => simp [intOf]; omega
          · obtain rfl : j = m.length := by omega
            go_wp2_with fail
            go_ret
            exact ⟨ret_int (by rw [HS2.out, HB.out]), bstep (bunbox HO.out (Nat.le_refl _) (by omega)) hbx (by have := HO.out.size; simp at this; omega)⟩

end Go.Proofs.YtbmlmcoepmbelaaDoor
