/-
  How two values compare: package tree's Compare and the reference's.
-/
import Derived.Test.YthjdeckdklhphaaGreatDoorVals
import Derived.Lib.Bytealg
set_option linter.unusedVariables false
set_option linter.unusedSimpArgs false
namespace Go.Proofs.YthjdeckdklhphaaGreatDoor
open Go.RowKit

def cmpI (a b : Int) : Int := if a < b then -1 else if b < a then 1 else 0
def cmpB (a b : Bool) : Int := if a = b then 0 else if b then -1 else 1

theorem cmpInt_any (a b : Int) (w : World) : Calls Tryz.prog 59 #[.int .i64 a, .int .i64 b] w fun e w' => e = .returned (.int .i64 (cmpI a b)) ∧ w = w' := by
  by_cases h1 : a < b
  · have HR : Hid (cmpI a b = -1) := by show cmpI a b = -1; unfold cmpI; rw [if_pos h1]
    go_enter Tryz.func59, Tryz.ntmps59
    go_wp2
    go_ret
    exact ⟨ret_int HR.out.symm, rfl⟩
  · by_cases h2 : b < a
    · have HR : Hid (cmpI a b = 1) := by show cmpI a b = 1; unfold cmpI; rw [if_neg h1, if_pos h2]
      go_enter Tryz.func59, Tryz.ntmps59
      go_wp2
      go_ret
      exact ⟨ret_int HR.out.symm, rfl⟩
    · have HR : Hid (cmpI a b = 0) := by show cmpI a b = 0; unfold cmpI; rw [if_neg h1, if_neg h2]
      go_enter Tryz.func59, Tryz.ntmps59
      go_wp2
      go_ret
      exact ⟨ret_int HR.out.symm, rfl⟩

theorem cmpInt64_any (a b : Int) (w : World) : Calls Tryz.prog 61 #[.int .i64 a, .int .i64 b] w fun e w' => e = .returned (.int .i64 (cmpI a b)) ∧ w = w' := by
  by_cases h1 : a < b
  · have HR : Hid (cmpI a b = -1) := by show cmpI a b = -1; unfold cmpI; rw [if_pos h1]
    go_enter Tryz.func61, Tryz.ntmps61
    go_wp2
    go_ret
    exact ⟨ret_int HR.out.symm, rfl⟩
  · by_cases h2 : b < a
    · have HR : Hid (cmpI a b = 1) := by show cmpI a b = 1; unfold cmpI; rw [if_neg h1, if_pos h2]
      go_enter Tryz.func61, Tryz.ntmps61
      go_wp2
      go_ret
      exact ⟨ret_int HR.out.symm, rfl⟩
    · have HR : Hid (cmpI a b = 0) := by show cmpI a b = 0; unfold cmpI; rw [if_neg h1, if_neg h2]
      go_enter Tryz.func61, Tryz.ntmps61
      go_wp2
      go_ret
      exact ⟨ret_int HR.out.symm, rfl⟩

theorem cmpBools_any (a b : Bool) (w : World) : Calls Tryz.prog 60 #[.bool a, .bool b] w fun e w' => e = .returned (.int .i64 (cmpB a b)) ∧ w = w' := by
  cases a <;> cases b
  all_goals
    go_enter Tryz.func60, Tryz.ntmps60
    go_wp2
    go_ret
    exact ⟨rfl, rfl⟩

def cmpS (a b : ByteArray) : Int := Lib.compareBytes a.data.toList b.data.toList

set_option maxRecDepth 100000 in
theorem compareString_any (a b : ByteArray) (w : World) : Calls Tryz.prog 105 #[.string a, .string b] w fun e w' => e = .returned (.int .i64 (cmpS a b)) ∧ w = w' := by
  go_enter Tryz.func105, Tryz.ntmps105
  go_wp2
  rw [run_callFunc_extern Tryz.func136 (by kernel_rfl) (by kernel_rfl) (by kernel_rfl) (e := Extern.BytealgCompare.compare) (by kernel_rfl), Lib.run_compareString]
  simp only [Result.andThen]
  rw [Oper.upon_value]
  go_wp2
  go_ret
  exact ⟨rfl, rfl⟩

theorem cmpStr_any (a b : ByteArray) (w : World) : Calls Tryz.prog 62 #[.string a, .string b] w fun e w' => e = .returned (.int .i64 (cmpS a b)) ∧ w = w' := by
  go_enter Tryz.func62, Tryz.ntmps62
  go_wp2_with fail
  refine (compareString_any a b _).mono ?_
  rintro e w1 ⟨rfl, rfl⟩
  go_wp2_with fail
  go_ret
  exact ⟨rfl, rfl⟩

mutual
/-- How two values compare. -/
def T.cmp : T → T → Int
  | .mk k1 b1 n1 s1 l1 m1, .mk k2 b2 n2 s2 l2 m2 =>
    if k1 ≠ k2 then cmpI k1 k2 else if k1 = 1 then cmpB b1 b2 else if k1 = 2 then cmpI n1 n2 else if k1 = 3 then cmpS s1 s2 else if k1 = 4 then cmpL l1 l2 else if k1 = 5 then cmpM m1 m2 else 0
def cmpL : List T → List T → Int
  | [], [] => 0
  | [], _ :: _ => -1
  | _ :: _, [] => 1
  | x :: r, y :: q => if T.cmp x y ≠ 0 then T.cmp x y else cmpL r q
def cmpM : List (ByteArray × T) → List (ByteArray × T) → Int
  | [], [] => 0
  | [], _ :: _ => -1
  | _ :: _, [] => 1
  | (k1, x) :: r, (k2, y) :: q => if k1 ≠ k2 then (if cmpS k1 k2 ≠ 0 then cmpS k1 k2 else cmpM r q) else if T.cmp x y ≠ 0 then T.cmp x y else cmpM r q
end

/-- How two pairs compare. -/
def cmpP (p q : ByteArray × T) : Int := if p.1 ≠ q.1 then cmpS p.1 q.1 else T.cmp p.2 q.2

theorem cmpM_cons (p q : ByteArray × T) (r u : List (ByteArray × T)) : cmpM (p :: r) (q :: u) = if cmpP p q ≠ 0 then cmpP p q else cmpM r u := by
  obtain ⟨k1, x⟩ := p
  obtain ⟨k2, y⟩ := q
  rw [cmpM]
  unfold cmpP
  by_cases h : k1 ≠ k2
  · simp only [if_pos h]
  · simp only [if_neg h]
theorem T.cmp_mk (k1 : Int) (b1 : Bool) (n1 : Int) (s1 : ByteArray) (l1 : List T) (m1 : List (ByteArray × T)) (k2 : Int) (b2 : Bool) (n2 : Int) (s2 : ByteArray) (l2 : List T) (m2 : List (ByteArray × T)) :
    T.cmp (.mk k1 b1 n1 s1 l1 m1) (.mk k2 b2 n2 s2 l2 m2) = if k1 ≠ k2 then cmpI k1 k2 else if k1 = 1 then cmpB b1 b2 else if k1 = 2 then cmpI n1 n2 else if k1 = 3 then cmpS s1 s2 else if k1 = 4 then cmpL l1 l2 else if k1 = 5 then cmpM m1 m2 else 0 := by
  rw [T.cmp]


/-- Two lists, place by place; the shorter first. -/
def cmpG {α : Type} (f : α → α → Int) : List α → List α → Int
  | [], [] => 0
  | [], _ :: _ => -1
  | _ :: _, [] => 1
  | x :: r, y :: q => if f x y ≠ 0 then f x y else cmpG f r q
theorem cmpL_G : ∀ xs ys : List T, cmpL xs ys = cmpG T.cmp xs ys
  | [], [] => by rw [cmpL, cmpG]
  | [], _ :: _ => by rw [cmpL, cmpG]
  | _ :: _, [] => by rw [cmpL, cmpG]
  | x :: r, y :: q => by rw [cmpL, cmpG, cmpL_G r q]
theorem cmpM_G : ∀ xs ys : List (ByteArray × T), cmpM xs ys = cmpG cmpP xs ys
  | [], [] => by rw [cmpM, cmpG]
  | [], _ :: _ => by rw [cmpM, cmpG]
  | _ :: _, [] => by rw [cmpM, cmpG]
  | x :: r, y :: q => by rw [cmpM_cons, cmpG, cmpM_G r q]
section
variable {α : Type} (f : α → α → Int)
theorem cmpG_drop : ∀ (j : Nat) (xs ys : List α), j ≤ xs.length → j ≤ ys.length → (∀ i (p : i < xs.length) (q : i < ys.length), i < j → f xs[i] ys[i] = 0) → cmpG f xs ys = cmpG f (xs.drop j) (ys.drop j)
  | 0, _, _, _, _, _ => by simp
  | j + 1, x :: r, y :: q, p1, p2, h => by
    have h0 : f x y = 0 := h 0 (by simp) (by simp) (by omega)
    rw [cmpG, if_neg (by simp [h0]), List.drop_succ_cons, List.drop_succ_cons]
    exact cmpG_drop j r q (by simpa using p1) (by simpa using p2) (fun i a b c => by have := h (i + 1) (by simpa using a) (by simpa using b) (by omega); simpa using this)
theorem cmpG_hit (xs ys : List α) (j : Nat) (p : j < xs.length) (q : j < ys.length) (h : ∀ i (p : i < xs.length) (q : i < ys.length), i < j → f xs[i] ys[i] = 0) (hn : f xs[j] ys[j] ≠ 0) : cmpG f xs ys = f xs[j] ys[j] := by
  rw [cmpG_drop f j xs ys (by omega) (by omega) h, List.drop_eq_getElem_cons p, List.drop_eq_getElem_cons q, cmpG, if_pos hn]
theorem cmpG_long (xs ys : List α) (q : ys.length < xs.length) (h : ∀ i (p : i < xs.length) (q : i < ys.length), i < ys.length → f xs[i] ys[i] = 0) : cmpG f xs ys = 1 := by
  rw [cmpG_drop f ys.length xs ys (by omega) (by omega) h, List.drop_eq_getElem_cons q, List.drop_of_length_le (Nat.le_refl _), cmpG]
theorem cmpG_short (xs ys : List α) (q : xs.length < ys.length) (h : ∀ i (p : i < xs.length) (q : i < ys.length), i < xs.length → f xs[i] ys[i] = 0) : cmpG f xs ys = -1 := by
  rw [cmpG_drop f xs.length xs ys (by omega) (by omega) h, List.drop_eq_getElem_cons q, List.drop_of_length_le (Nat.le_refl _), cmpG]
theorem cmpG_same (xs ys : List α) (q : xs.length = ys.length) (h : ∀ i (p : i < xs.length) (q : i < ys.length), i < xs.length → f xs[i] ys[i] = 0) : cmpG f xs ys = 0 := by
  rw [cmpG_drop f xs.length xs ys (by omega) (by omega) h, List.drop_of_length_le (Nat.le_refl _), List.drop_of_length_le (by omega), cmpG]
end

set_option maxHeartbeats 400000 in
theorem sCompareV_any {w0 : World} {R1 R2 : Nat → Prop} {xs ys : List T} {a1 a2 : Option Addr} {c1 c2 : Nat} {cl1 cl2 : Nat → Array Value} (h1 : SliceV w0 R1 xs a1 c1 cl1) (h2 : SliceV w0 R2 ys a2 c2 cl2)
    (hc : ∀ i (p : i < xs.length) (q : i < ys.length) (w : World), Below w0.heap.size w0 w → Calls Tryz.prog 32 #[.agg (cl1 i), .agg (cl2 i)] w fun e w' => e = .returned (.int .i64 (T.cmp xs[i] ys[i])) ∧ Below w.heap.size w w')
    (w : World) (hw : Below w0.heap.size w0 w) :
    Calls Tryz.prog 63 #[.slice a1 xs.length c1, .slice a2 ys.length c2, .func (Fn.func 32) #[] #[]] w fun e w' => e = .returned (.int .i64 (cmpL xs ys)) ∧ Below w.heap.size w w' := by
  have hl1 := h1.hdr
  have hl2 := h2.hdr
  have l1 := hl1.le
  have l2 := hl2.le
  have x1 := hl1.big
  have x2 := hl2.big
  have HC := Lib.hid hc
  have EH := Lib.hid (cmpG_hit T.cmp xs ys)
  have EL := Lib.hid (cmpG_long T.cmp xs ys)
  have ES := Lib.hid (cmpG_short T.cmp xs ys)
  have EE := Lib.hid (cmpG_same T.cmp xs ys)
  clear hc
  rw [cmpL_G]
  go_enter Tryz.func63, Tryz.ntmps63
  go_wp2_with fail
  go_loopw [13] (fun vi wr => ∃ j : Nat, j ≤ xs.length ∧ j ≤ ys.length ∧ vi = .int .i64 j ∧ Hid (∀ i (p : i < xs.length) (q : i < ys.length), i < j → T.cmp xs[i] ys[i] = 0) ∧ Below w.heap.size w wr) (fun vi _ => xs.length - (intOf vi).toNat)
  case atStart => exact ⟨0, by omega, by omega, rfl, fun i _ _ h => absurd h (Nat.not_lt_zero _), Below.refl _ _⟩
  case round =>
    obtain ⟨j, hj, hj2, rfl, h0, hbw⟩ := hrel
    have hbw2 := bstep hw hbw hw.size
    by_cases hjl : j < xs.length
    · obtain ⟨bl, ol, c0, c1', c2', c3, c4, c4l, c4c, c5, c5l, c5c, rfl, hcl, r0, r1, r2, r3, r4, r5⟩ := openL hbw2 hl1 h1.rows hjl (h1.each j hjl)
      by_cases hjy : j < ys.length
      · have CJ := Lib.hid (HC.out j hjl hjy)
        have EJ := Lib.hid (EH.out j hjl hjy h0.out)
        obtain ⟨bl2, ol2, d0, d1, d2, d3, d4, d4l, d4c, d5, d5l, d5c, rfl, hdl, s0, s1, s2, s3, s4, s5⟩ := openL hbw2 hl2 h2.rows hjy (h2.each j hjy)
        rw [hcl, hdl] at CJ
        have hlt := World.block_lt_of_cell? _ _ s0
        have z0 := (Below.refl wr.heap.size wr).alloc (Nat.le_refl _) (.cells #[.int .i64 c0, .bool c1', .int .i64 c2', .string c3, .slice c4 c4l c4c, .slice c5 c5l c5c] 28)
        have q0 := (z0.cell (p := ⟨bl2, ol2 + j * 6, none⟩) hlt).trans s0
        have q1 := (z0.cell (p := ⟨bl2, ol2 + j * 6 + 1, none⟩) hlt).trans s1
        have q2 := (z0.cell (p := ⟨bl2, ol2 + j * 6 + 2, none⟩) hlt).trans s2
        have q3 := (z0.cell (p := ⟨bl2, ol2 + j * 6 + 3, none⟩) hlt).trans s3
        have q4 := (z0.cell (p := ⟨bl2, ol2 + j * 6 + 4, none⟩) hlt).trans s4
        have q5 := (z0.cell (p := ⟨bl2, ol2 + j * 6 + 5, none⟩) hlt).trans s5
        clear hcl hdl z0 hlt
        by_cases hz : T.cmp xs[j] ys[j] = 0
        · have HZ2 : (T.cmp xs[j] ys[j] != 0) = false := by rw [hz]; rfl
          have HZ := Lib.hid hz
          clear hz
          go_wp2_with fail
          refine (CJ.out _ (bstep hbw2 ((Below.refl _ _).alloc (Nat.le_refl _) _ |>.alloc (by simp) _) hbw2.size)).mono ?_
          rintro e w1 ⟨rfl, hb1⟩
          have hb2 := bstep (((Below.refl wr.heap.size wr).alloc (Nat.le_refl _) _).alloc (by simp) _) hb1 (by simp; omega)
          have hb3 := bstep hbw hb2 hbw.size
          go_wp2_with fail
          go_roundw
          case rel => exact ⟨j + 1, by omega, by omega, by go_num, fun i p q hij => by
            by_cases e : i = j
            · subst e; exact HZ.out
            · exact h0.out i p q (by omega), hb3⟩
          case measure => simp [intOf]; omega
        · have HZ2 := show (T.cmp xs[j] ys[j] != 0) = true by simp [hz]
          have HZ := Lib.hid (EJ.out hz)
          clear hz
          go_wp2_with fail
          refine (CJ.out _ (bstep hbw2 ((Below.refl _ _).alloc (Nat.le_refl _) _ |>.alloc (by simp) _) hbw2.size)).mono ?_
          rintro e w1 ⟨rfl, hb1⟩
          have hb2 := bstep (((Below.refl wr.heap.size wr).alloc (Nat.le_refl _) _).alloc (by simp) _) hb1 (by simp; omega)
          have hb3 := bstep hbw hb2 hbw.size
          go_wp2_with fail
          go_ret
          exact ⟨ret_int HZ.out.symm, hb3⟩
      · obtain rfl : j = ys.length := by omega
        have HZ := Lib.hid (EL.out hjl h0.out)
        go_wp2_with fail
        go_ret
        exact ⟨ret_int HZ.out.symm, bbox hbw _ hbw.size⟩
    · obtain rfl : j = xs.length := by omega
      by_cases hly : xs.length < ys.length
      · have HZ := Lib.hid (ES.out hly h0.out)
        go_wp2_with fail
        go_ret
        exact ⟨ret_int HZ.out.symm, hbw⟩
      · have HZ := Lib.hid (EE.out (by omega) h0.out)
        go_wp2_with fail
        go_ret
        exact ⟨ret_int HZ.out.symm, hbw⟩

set_option maxHeartbeats 400000 in
/-- Pairs: the keys first. -/
theorem comparePairs_any {w0 : World} {p q : ByteArray × T} {cs ds : Array Value} {R1 R2 : Nat → Prop} (h1 : Lies w0 R1 p.2 cs) (h2 : Lies w0 R2 q.2 ds)
    (hc : ∀ (w : World), Below w0.heap.size w0 w → Calls Tryz.prog 32 #[.agg cs, .agg ds] w fun e w' => e = .returned (.int .i64 (T.cmp p.2 q.2)) ∧ Below w.heap.size w w')
    (w : World) (hw : Below w0.heap.size w0 w) :
    Calls Tryz.prog 65 #[.agg (#[Value.string p.1] ++ cs), .agg (#[Value.string q.1] ++ ds)] w fun e w' => e = .returned (.int .i64 (cmpP p q)) ∧ Below w.heap.size w w' := by
  have HC := Lib.hid hc
  clear hc
  obtain ⟨k, b, n, s, la, ll, lc, ma, ml, mc, rfl⟩ := h1.six
  obtain ⟨k', b', n', s', la', ll', lc', ma', ml', mc', rfl⟩ := h2.six
  obtain ⟨p1, p2⟩ := p
  obtain ⟨q1, q2⟩ := q
  simp only at h1 h2 HC
  simp only [Array.append_eq_append, List.append_toArray, List.cons_append, List.nil_append]
  by_cases hpq : p1 = q1
  · have HR : Hid (cmpP (p1, p2) (q1, q2) = T.cmp p2 q2) := by show cmpP _ _ = _; unfold cmpP; rw [if_neg (by simp [hpq])]
    subst hpq
    go_enter Tryz.func65, Tryz.ntmps65
    go_wp2_with fail
    refine (HC.out _ (bstep hw (((Below.refl _ _).alloc (Nat.le_refl _) _).alloc (by simp) _) hw.size)).mono ?_
    rintro e w1 ⟨rfl, hb1⟩
    have hb2 := bstep (((Below.refl w.heap.size w).alloc (Nat.le_refl _) _).alloc (by simp) _) hb1 (by simp; omega)
    go_wp2_with fail
    go_ret
    exact ⟨ret_int HR.out.symm, hb2⟩
  · have HR : Hid (cmpP (p1, p2) (q1, q2) = cmpS p1 q1) := by show cmpP _ _ = _; unfold cmpP; rw [if_pos hpq]
    have hne := str_ne hpq
    go_enter Tryz.func65, Tryz.ntmps65
    go_wp2_with fail
    refine (cmpStr_any p1 q1 _).mono ?_
    rintro e w1 ⟨rfl, rfl⟩
    go_wp2_with fail
    go_ret
    exact ⟨ret_int HR.out.symm, ((Below.refl _ _).alloc (Nat.le_refl _) _).alloc (by simp) _⟩

set_option maxHeartbeats 400000 in
theorem sCompareP_any {w0 : World} {R1 R2 : Nat → Prop} {xs ys : List (ByteArray × T)} {a1 a2 : Option Addr} {c1 c2 : Nat} {cl1 cl2 : Nat → Array Value} (h1 : SliceP w0 R1 xs a1 c1 cl1) (h2 : SliceP w0 R2 ys a2 c2 cl2)
    (hc : ∀ i (p : i < xs.length) (q : i < ys.length) (w : World), Below w0.heap.size w0 w → Calls Tryz.prog 65 #[.agg (#[Value.string xs[i].1] ++ cl1 i), .agg (#[Value.string ys[i].1] ++ cl2 i)] w fun e w' => e = .returned (.int .i64 (cmpP xs[i] ys[i])) ∧ Below w.heap.size w w')
    (w : World) (hw : Below w0.heap.size w0 w) :
    Calls Tryz.prog 64 #[.slice a1 xs.length c1, .slice a2 ys.length c2, .func (Fn.func 65) #[] #[]] w fun e w' => e = .returned (.int .i64 (cmpM xs ys)) ∧ Below w.heap.size w w' := by
  have hl1 := h1.hdr
  have hl2 := h2.hdr
  have l1 := hl1.le
  have l2 := hl2.le
  have x1 := hl1.big
  have x2 := hl2.big
  have HC := Lib.hid hc
  have EH := Lib.hid (cmpG_hit cmpP xs ys)
  have EL := Lib.hid (cmpG_long cmpP xs ys)
  have ES := Lib.hid (cmpG_short cmpP xs ys)
  have EE := Lib.hid (cmpG_same cmpP xs ys)
  clear hc
  rw [cmpM_G]
  go_enter Tryz.func64, Tryz.ntmps64
  go_wp2_with fail
  go_loopw [13] (fun vi wr => ∃ j : Nat, j ≤ xs.length ∧ j ≤ ys.length ∧ vi = .int .i64 j ∧ Hid (∀ i (p : i < xs.length) (q : i < ys.length), i < j → cmpP xs[i] ys[i] = 0) ∧ Below w.heap.size w wr) (fun vi _ => xs.length - (intOf vi).toNat)
  case atStart => exact ⟨0, by omega, by omega, rfl, fun i _ _ h => absurd h (Nat.not_lt_zero _), Below.refl _ _⟩
  case round =>
    obtain ⟨j, hj, hj2, rfl, h0, hbw⟩ := hrel
    have hbw2 := bstep hw hbw hw.size
    by_cases hjl : j < xs.length
    · obtain ⟨bl, ol, c0, c1', c2', c3, c4, c4l, c4c, c5, c5l, c5c, rfl, hcl, r0, r1, r2, r3, r4, r5, r6⟩ := openM hbw2 hl1 h1.rows hjl (h1.each j hjl)
      by_cases hjy : j < ys.length
      · have CJ := Lib.hid (HC.out j hjl hjy)
        have EJ := Lib.hid (EH.out j hjl hjy h0.out)
        obtain ⟨bl2, ol2, d0, d1, d2, d3, d4, d4l, d4c, d5, d5l, d5c, rfl, hdl, s0, s1, s2, s3, s4, s5, s6⟩ := openM hbw2 hl2 h2.rows hjy (h2.each j hjy)
        rw [hcl, hdl] at CJ
        have hlt := World.block_lt_of_cell? _ _ s0
        have z0 := (Below.refl wr.heap.size wr).alloc (Nat.le_refl _) (.cells #[.string xs[j].1, .int .i64 c0, .bool c1', .int .i64 c2', .string c3, .slice c4 c4l c4c, .slice c5 c5l c5c] 48)
        have q0 := (z0.cell (p := ⟨bl2, ol2 + j * 7, none⟩) hlt).trans s0
        have q1 := (z0.cell (p := ⟨bl2, ol2 + j * 7 + 1, none⟩) hlt).trans s1
        have q2 := (z0.cell (p := ⟨bl2, ol2 + j * 7 + 2, none⟩) hlt).trans s2
        have q3 := (z0.cell (p := ⟨bl2, ol2 + j * 7 + 3, none⟩) hlt).trans s3
        have q4 := (z0.cell (p := ⟨bl2, ol2 + j * 7 + 4, none⟩) hlt).trans s4
        have q6 := (z0.cell (p := ⟨bl2, ol2 + j * 7 + 6, none⟩) hlt).trans s6
        have q5 := (z0.cell (p := ⟨bl2, ol2 + j * 7 + 5, none⟩) hlt).trans s5
        clear hcl hdl z0 hlt
        by_cases hz : cmpP xs[j] ys[j] = 0
        · have HZ2 : (cmpP xs[j] ys[j] != 0) = false := by rw [hz]; rfl
          have HZ := Lib.hid hz
          clear hz
          go_wp2_with fail
          refine (CJ.out _ (bstep hbw2 ((Below.refl _ _).alloc (Nat.le_refl _) _ |>.alloc (by simp) _) hbw2.size)).mono ?_
          rintro e w1 ⟨rfl, hb1⟩
          have hb2 := bstep (((Below.refl wr.heap.size wr).alloc (Nat.le_refl _) _).alloc (by simp) _) hb1 (by simp; omega)
          have hb3 := bstep hbw hb2 hbw.size
          go_wp2_with fail
          go_roundw
          case rel => exact ⟨j + 1, by omega, by omega, by go_num, fun i p q hij => by
            by_cases e : i = j
            · subst e; exact HZ.out
            · exact h0.out i p q (by omega), hb3⟩
          case measure => simp [intOf]; omega
        · have HZ2 := show (cmpP xs[j] ys[j] != 0) = true by simp [hz]
          have HZ := Lib.hid (EJ.out hz)
          clear hz
          go_wp2_with fail
          refine (CJ.out _ (bstep hbw2 ((Below.refl _ _).alloc (Nat.le_refl _) _ |>.alloc (by simp) _) hbw2.size)).mono ?_
          rintro e w1 ⟨rfl, hb1⟩
          have hb2 := bstep (((Below.refl wr.heap.size wr).alloc (Nat.le_refl _) _).alloc (by simp) _) hb1 (by simp; omega)
          have hb3 := bstep hbw hb2 hbw.size
          go_wp2_with fail
          go_ret
          exact ⟨ret_int HZ.out.symm, hb3⟩
      · obtain rfl : j = ys.length := by omega
        have HZ := Lib.hid (EL.out hjl h0.out)
        go_wp2_with fail
        go_ret
        exact ⟨ret_int HZ.out.symm, bbox hbw _ hbw.size⟩
    · obtain rfl : j = xs.length := by omega
      by_cases hly : xs.length < ys.length
      · have HZ := Lib.hid (ES.out hly h0.out)
        go_wp2_with fail
        go_ret
        exact ⟨ret_int HZ.out.symm, hbw⟩
      · have HZ := Lib.hid (EE.out (by omega) h0.out)
        go_wp2_with fail
        go_ret
        exact ⟨ret_int HZ.out.symm, hbw⟩


set_option maxHeartbeats 800000 in
theorem tCompare_any {w0 : World} {R1 : Nat → Prop} {t : T} {cs : Array Value} (h : Lies w0 R1 t cs) : ∀ {R2 : Nat → Prop} {u : T} {ds : Array Value} (_ : Lies w0 R2 u ds) (w : World), Below w0.heap.size w0 w →
    Calls Tryz.prog 32 #[.agg cs, .agg ds] w fun e w' => e = .returned (.int .i64 (T.cmp t u)) ∧ Below w.heap.size w w' := by
  induction h with
  | mk k b n s l m la lc ma mc cl cm hk hn hs hl hm rl rm ks il im ihl ihm =>
    intro R2 u ds hu w hw
    cases hu with
    | mk k2 b2 n2 s2 l2 m2 la2 lc2 ma2 mc2 cl2 cm2 hk2 hn2 hs2 hl2 hm2 rl2 rm2 ks2 il2 im2 =>
      have E := T.cmp_mk k b n s l m k2 b2 n2 s2 l2 m2
      have CV := Lib.hid (fun w hw => sCompareV_any (w0 := w0) ⟨hl, rl, il⟩ ⟨hl2, rl2, il2⟩ (fun i p q w hw => ihl i p (il2 i q) w hw) w hw)
      have CP := Lib.hid (fun w hw => sCompareP_any (w0 := w0) ⟨hm, rm, ks, im⟩ ⟨hm2, rm2, ks2, im2⟩ (fun i p q w hw => comparePairs_any (im i p) (im2 i q) (fun w hw => ihm i p (im2 i q) w hw) w hw) w hw)
      clear ihl ihm rl rm ks il im rl2 rm2 ks2 il2 im2
      have hB := Lib.hid (((Below.refl w.heap.size w).alloc (Nat.le_refl _) (.cells #[.int .i64 k, .bool b, .int .i64 n, .string s, .slice la l.length lc, .slice ma m.length mc] 28)).alloc (by simp) (.cells #[.int .i64 k2, .bool b2, .int .i64 n2, .string s2, .slice la2 l2.length lc2, .slice ma2 m2.length mc2] 28))
      by_cases hkk : k = k2
      · rw [if_neg (by simp [hkk])] at E
        subst hkk
        by_cases h1 : k = 1
        · rw [if_pos h1] at E
          have HE := Lib.hid E
          subst h1
          clear E
          go_enter Tryz.func32, Tryz.ntmps32
          go_wp2_with fail
          refine (cmpBools_any b b2 _).mono ?_
          rintro e w1 ⟨rfl, rfl⟩
          go_wp2_with fail
          go_ret
          exact ⟨ret_int HE.out.symm, hB.out⟩
        rw [if_neg h1] at E
        by_cases h2 : k = 2
        · rw [if_pos h2] at E
          have HE := Lib.hid E
          subst h2
          clear E h1
          go_enter Tryz.func32, Tryz.ntmps32
          go_wp2_with fail
          refine (cmpInt64_any n n2 _).mono ?_
          rintro e w1 ⟨rfl, rfl⟩
          go_wp2_with fail
          go_ret
          exact ⟨ret_int HE.out.symm, hB.out⟩
        rw [if_neg h2] at E
        by_cases h3 : k = 3
        · rw [if_pos h3] at E
          have HE := Lib.hid E
          subst h3
          clear E h1 h2
          go_enter Tryz.func32, Tryz.ntmps32
          go_wp2_with fail
          refine (cmpStr_any s s2 _).mono ?_
          rintro e w1 ⟨rfl, rfl⟩
          go_wp2_with fail
          go_ret
          exact ⟨ret_int HE.out.symm, hB.out⟩
        rw [if_neg h3] at E
        by_cases h4 : k = 4
        · rw [if_pos h4] at E
          have HE := Lib.hid E
          subst h4
          clear E h1 h2 h3
          go_enter Tryz.func32, Tryz.ntmps32
          go_wp2_with fail
          refine (CV.out _ (bstep hw hB.out hw.size)).mono ?_
          rintro e w1 ⟨rfl, hb1⟩
          have hb2 := bstep hB.out hb1 (by simp; omega)
          go_wp2_with fail
          go_ret
          exact ⟨ret_int HE.out.symm, hb2⟩
        rw [if_neg h4] at E
        by_cases h5 : k = 5
        · rw [if_pos h5] at E
          have HE := Lib.hid E
          subst h5
          clear E h1 h2 h3 h4
          go_enter Tryz.func32, Tryz.ntmps32
          go_wp2_with fail
          refine (CP.out _ (bstep hw hB.out hw.size)).mono ?_
          rintro e w1 ⟨rfl, hb1⟩
          have hb2 := bstep hB.out hb1 (by simp; omega)
          go_wp2_with fail
          go_ret
          exact ⟨ret_int HE.out.symm, hb2⟩
        rw [if_neg h5] at E
        have HE := Lib.hid E
        have f1 : (k == 1) = false := by simp [h1]
        have f2 : (k == 2) = false := by simp [h2]
        have f3 : (k == 3) = false := by simp [h3]
        have f4 : (k == 4) = false := by simp [h4]
        have f5 : (k == 5) = false := by simp [h5]
        clear E h1 h2 h3 h4 h5
        go_enter Tryz.func32, Tryz.ntmps32
        go_wp2_with fail
        go_ret
        exact ⟨ret_int HE.out.symm, hB.out⟩
      · rw [if_pos (by simp [hkk])] at E
        have HE := Lib.hid E
        have fk : (k != k2) = true := by simp [hkk]
        clear E hkk
        go_enter Tryz.func32, Tryz.ntmps32
        go_wp2_with fail
        refine (cmpInt_any k k2 _).mono ?_
        rintro e w1 ⟨rfl, rfl⟩
        go_wp2_with fail
        go_ret
        exact ⟨ret_int HE.out.symm, hB.out⟩

end Go.Proofs.YthjdeckdklhphaaGreatDoor
