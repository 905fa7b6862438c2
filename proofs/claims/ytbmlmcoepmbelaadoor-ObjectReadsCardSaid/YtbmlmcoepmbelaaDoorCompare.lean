/-
  How two values compare: package tree's Compare and the reference's.
-/
import Derived.Test.YtbmlmcoepmbelaaDoorVals
import Derived.Lib.Bytealg
set_option linter.unusedVariables false
set_option linter.unusedSimpArgs false
namespace Go.Proofs.YtbmlmcoepmbelaaDoor
open Go.RowKit

def cmpI (a b : Int) : Int := if a < b then -1 else if b < a then 1 else 0
def cmpB (a b : Bool) : Int := if a = b then 0 else if b then -1 else 1

theorem cmpInt_any (a b : Int) (w : World) : Calls Tryd.prog 37 #[.int .i64 a, .int .i64 b] w fun e w' => e = .returned (.int .i64 (cmpI a b)) ∧ w = w' := by
  by_cases h1 : a < b
  · have HR : Hid (cmpI a b = -1) := by show cmpI a b = -1; unfold cmpI; rw [if_pos h1]
    go_enter Tryd.func37, Tryd.ntmps37
    go_wp2
    go_ret
    exact ⟨ret_int HR.out.symm, rfl⟩
  · by_cases h2 : b < a
    · have HR : Hid (cmpI a b = 1) := by show cmpI a b = 1; unfold cmpI; rw [if_neg h1, if_pos h2]
      go_enter Tryd.func37, Tryd.ntmps37
      go_wp2
      go_ret
      exact ⟨ret_int HR.out.symm, rfl⟩
    · have HR : Hid (cmpI a b = 0) := by show cmpI a b = 0; unfold cmpI; rw [if_neg h1, if_neg h2]
      go_enter Tryd.func37, Tryd.ntmps37
      go_wp2
      go_ret
      exact ⟨ret_int HR.out.symm, rfl⟩

def cmpS (a b : ByteArray) : Int := Lib.compareBytes a.data.toList b.data.toList

set_option maxRecDepth 100000 in
theorem compareString_any (a b : ByteArray) (w : World) : Calls Tryd.prog 63 #[.string a, .string b] w fun e w' => e = .returned (.int .i64 (cmpS a b)) ∧ w = w' := by
  go_enter Tryd.func63, Tryd.ntmps63
  go_wp2
  rw [run_callFunc_extern Tryd.func80 (by kernel_rfl) (by kernel_rfl) (by kernel_rfl) (e := Extern.BytealgCompare.compare) (by kernel_rfl), Lib.run_compareString]
  simp only [Result.andThen]
  rw [Oper.upon_value]
  go_wp2
  go_ret
  exact ⟨rfl, rfl⟩

theorem cmpStr_any (a b : ByteArray) (w : World) : Calls Tryd.prog 38 #[.string a, .string b] w fun e w' => e = .returned (.int .i64 (cmpS a b)) ∧ w = w' := by
  go_enter Tryd.func38, Tryd.ntmps38
  go_wp2_with fail
  refine (compareString_any a b _).mono ?_
  rintro e w1 ⟨rfl, rfl⟩
  go_wp2_with fail
  go_ret
  exact ⟨rfl, rfl⟩

mutual
/-- How two values compare. -/
def T.cmp : T → T → Int
  | .mk k1 b1 n1 s1 l1 m1, .mk k2 b2 n2 s2 l2 m2 =>
    if k1 ≠ k2 then cmpI k1 k2 else if k1 = 1 then cmpB b1 b2 else if k1 = 2 then cmpI n1 n2 else if k1 = 3 then cmpS s1 s2 else if k1 = 4 then cmpL l1 l2 else if k1 = 5 then cmpM m1 m2 else 0
def cmpL : List T → List T → Int
  | [], [] => 0
  | [], _ :: _ => -1
  | _ :: _, [] => 1
  | x :: r, y :: q => if T.cmp x y ≠ 0 then T.cmp x y else cmpL r q
def cmpM : List (ByteArray × T) → List (ByteArray × T) → Int
  | [], [] => 0
  | [], _ :: _ => -1
  | _ :: _, [] => 1
  | (k1, x) :: r, (k2, y) :: q => if k1 ≠ k2 then (if cmpS k1 k2 ≠ 0 then cmpS k1 k2 else cmpM r q) else if T.cmp x y ≠ 0 then T.cmp x y else cmpM r q
end

/-- How two pairs compare. -/
def cmpP (p q : ByteArray × T) : Int := if p.1 ≠ q.1 then cmpS p.1 q.1 else T.cmp p.2 q.2

theorem cmpM_cons (p q : ByteArray × T) (r u : List (ByteArray × T)) : cmpM (p :: r) (q :: u) = if cmpP p q ≠ 0 then cmpP p q else cmpM r u := by
  obtain ⟨k1, x⟩ := p
  obtain ⟨k2, y⟩ := q
  rw [cmpM]
  unfold cmpP
  by_cases h : k1 ≠ k2
  · simp only [if_pos h]
  · simp only [if_neg h]
theorem T.cmp_mk (k1 : Int) (b1 : Bool) (n1 : Int) (s1 : ByteArray) (l1 : List T) (m1 : List (ByteArray × T)) (k2 : Int) (b2 : Bool) (n2 : Int) (s2 : ByteArray) (l2 : List T) (m2 : List (ByteArray × T)) :
    T.cmp (.mk k1 b1 n1 s1 l1 m1) (.mk k2 b2 n2 s2 l2 m2) = if k1 ≠ k2 then cmpI k1 k2 else if k1 = 1 then cmpB b1 b2 else if k1 = 2 then cmpI n1 n2 else if k1 = 3 then cmpS s1 s2 else if k1 = 4 then cmpL l1 l2 else if k1 = 5 then cmpM m1 m2 else 0 := by
  rw [T.cmp]


/-- Two lists, place by place; the shorter first. -/
def cmpG {α : Type} (f : α → α → Int) : List α → List α → Int
  | [], [] => 0
  | [], _ :: _ => -1
  | _ :: _, [] => 1
  | x :: r, y :: q => if f x y ≠ 0 then f x y else cmpG f r q
theorem cmpL_G : ∀ xs ys : List T, cmpL xs ys = cmpG T.cmp xs ys
  | [], [] => by rw [cmpL, cmpG]
  | [], _ :: _ => by rw [cmpL, cmpG]
  | _ :: _, [] => by rw [cmpL, cmpG]
  | x :: r, y :: q => by rw [cmpL, cmpG, cmpL_G r q]
theorem cmpM_G : ∀ xs ys : List (ByteArray × T), cmpM xs ys = cmpG cmpP xs ys
  | [], [] => by rw [cmpM, cmpG]
  | [], _ :: _ => by rw [cmpM, cmpG]
  | _ :: _, [] => by rw [cmpM, cmpG]
  | x :: r, y :: q => by rw [cmpM_cons, cmpG, cmpM_G r q]
section
variable {α : Type} (f : α → α → Int)
theorem cmpG_drop : ∀ (j : Nat) (xs ys : List α), j ≤ xs.length → j ≤ ys.length → (∀ i (p : i < xs.length) (q : i < ys.length), i < j → f xs[i] ys[i] = 0) → cmpG f xs ys = cmpG f (xs.drop j) (ys.drop j)
  | 0, _, _, _, _, _ => by simp
  | j + 1, x :: r, y :: q, p1, p2, h => by
    have h0 : f x y = 0 := h 0 (by simp) (by simp) (by omega)
    rw [cmpG, if_neg (by simp [h0]), List.drop_succ_cons, List.drop_succ_cons]
    exact cmpG_drop j r q (by simpa using p1) (by simpa using p2) (fun i a b c => by have := h (i + 1) (by simpa using a) (by simpa using b) (by omega); simpa using this)
theorem cmpG_hit (xs ys : List α) (j : Nat) (p : j < xs.length) (q : j < ys.length) (h : ∀ i (p : i < xs.length) (q : i < ys.length), i < j → f xs[i] ys[i] = 0) (hn : f xs[j] ys[j] ≠ 0) : cmpG f xs ys = f xs[j] ys[j] := by
  rw [cmpG_drop f j xs ys (by omega) (by omega) h, List.drop_eq_getElem_cons p, List.drop_eq_getElem_cons q, cmpG, if_pos hn]
theorem cmpG_long (xs ys : List α) (q : ys.length < xs.length) (h : ∀ i (p : i < xs.length) (q : i < ys.length), i < ys.length → f xs[i] ys[i] = 0) : cmpG f xs ys = 1 := by
  rw [cmpG_drop f ys.length xs ys (by omega) (by omega) h, List.drop_eq_getElem_cons q, List.drop_of_length_le (Nat.le_refl _), cmpG]
theorem cmpG_short (xs ys : List α) (q : xs.length < ys.length) (h : ∀ i (p : i < xs.length) (q : i < ys.length), i < xs.length → f xs[i] ys[i] = 0) : cmpG f xs ys = -1 := by
  rw [cmpG_drop f xs.length xs ys (by omega) (by omega) h, List.drop_eq_getElem_cons q, List.drop_of_length_le (Nat.le_refl _), cmpG]
theorem cmpG_same (xs ys : List α) (q : xs.length = ys.length) (h : ∀ i (p : i < xs.length) (q : i < ys.length), i < xs.length → f xs[i] ys[i] = 0) : cmpG f xs ys = 0 := by
  rw [cmpG_drop f xs.length xs ys (by omega) (by omega) h, List.drop_of_length_le (Nat.le_refl _), List.drop_of_length_le (by omega), cmpG]
end

end Go.Proofs.YtbmlmcoepmbelaaDoor
