/-
  What every lifted proof of these laws needs.
-/
import Derived.Test.YtbmlmcoepmbelaaDoorRows
import Derived.Test.YtbmlmcoepmbelaaDoorLift
import Derived.ProofKit
import Derived.SizedLaws
import Derived.Test.YtbmlmcoepmbelaaDoorVals
import Derived.Lib.Bytealg
set_option linter.unusedVariables false
set_option linter.unusedSimpArgs false
namespace Go.Proofs.YtbmlmcoepmbelaaDoor
open Go.ChangeShapes Go.WideShapes Go.ChangeAt Go.RowKit

theorem Tryd.own : ownKnob Tryd.prog.godebug = none := by kernel_rfl
theorem Tryd.laidOut : laidOutB Tryd.prog = true := by kernel_rfl

set_option maxRecDepth 100000 in
/-- An argument that is a value, opened. -/
theorem open_value {H : Type} {enc : TypeId × Value → H} {W : World} {sp : Nat → Bool} {base : Nat} {held : Bool} {v : Value} {d : DataW H} {ps : List MemPlace} {r : Reach} {b0 : Nat} (hval : Value.okWide Tryd.prog W r b0 25 v)
    (h : DataW.Trod enc Tryd.prog W base sp held 25 v d ps) (hs : SmallW Tryd.prog 25 d) : ∃ cs t, v = .agg cs ∧ Lies W (fun _ => True) t cs := by
  obtain ⟨cs, rfl, _⟩ := okWide_struct Tryd.underlying25 hval
  obtain ⟨fuel, hf⟩ := h
  obtain ⟨t, ht⟩ := lies_of_trod fuel _ _ hf hs
  have e : (Value.agg cs).cells.toList.toArray = cs := by show cs.toList.toArray = cs; exact Array.toArray_toList
  rw [e] at ht
  exact ⟨cs, t, rfl, ht⟩

/-- .. and read again behind the call. -/
theorem again_value {H : Type} {enc : TypeId × Value → H} {W W' : World} {v : Value} {d : DataW H} {ps : List MemPlace} (h : DataW.Trod enc Tryd.prog W 0 (fun _ => true) true 25 v d ps) (hb : Below W.heap.size W W') (hlt : ∀ x ∈ ps, x.block < W.heap.size) :
    DataW.Trod enc Tryd.prog W' 0 (fun b => decide (b < W.heap.size)) true 25 v d ps := Below.trod Tryd.laidOut (by kernel_rfl) (of_decide_eq_true (by kernel_rfl)) h hb hlt

def zeroCells : Array Value := #[.int .i64 0, .bool false, .int .i64 0, .string ⟨#[]⟩, .slice none 0 0, .slice none 0 0]


end Go.Proofs.YtbmlmcoepmbelaaDoor

/-
  Flat arguments of a lifted proof: a truth, a number, a text.
-/
set_option linter.unusedVariables false
set_option linter.unusedSimpArgs false
namespace Go.Proofs.YtbmlmcoepmbelaaDoor
open Go.ChangeShapes Go.WideShapes Go.ChangeAt Go.RowKit

set_option maxRecDepth 100000 in
theorem open_str {H : Type} {enc : TypeId × Value → H} {W : World} {sp : Nat → Bool} {base : Nat} {held : Bool} {v : Value} {d : DataW H} {ps : List MemPlace} {r : Reach} {b0 : Nat} (hval : Value.okWide Tryd.prog W r b0 9 v)
    (h : DataW.Trod enc Tryd.prog W base sp held 9 v d ps) (hs : SmallW Tryd.prog 9 d) : ∃ s : ByteArray, v = .string s ∧ s.size ≤ 140737488355328 := by
  obtain ⟨s, rfl⟩ := okWide_string Tryd.underlying9 hval
  obtain ⟨fuel, hf⟩ := h
  obtain ⟨s2, e, ex, _⟩ := DataW.trod_string Tryd.underlying9 hf
  refine ⟨s, rfl, ?_⟩
  have e2 : s2 = s := by
    have : (Value.string s).cells.toList = [.string s] := rfl
    rw [this] at e
    injection e with e
    injection e with e
    exact e.symm
  subst e2
  have ed : d = .lit (.string s2.data.toList) := by injection ex
  subst ed
  have h1 := small_string hs
  rw [reach_47] at h1
  have h2 : s2.size = s2.data.toList.length := rfl
  omega

set_option maxRecDepth 100000 in
theorem open_truth {W : World} {v : Value} {r : Reach} {b0 : Nat} (hval : Value.okWide Tryd.prog W r b0 4 v) : ∃ b, v = .bool b := okWide_bool Tryd.underlying4 hval

set_option maxRecDepth 100000 in
theorem open_number {H : Type} {enc : TypeId × Value → H} {W : World} {sp : Nat → Bool} {base : Nat} {held : Bool} {v : Value} {d : DataW H} {ps : List MemPlace} {r : Reach} {b0 : Nat} (hval : Value.okWide Tryd.prog W r b0 2 v)
    (h : DataW.Trod enc Tryd.prog W base sp held 2 v d ps) : ∃ n, v = .int .i64 n ∧ (Lit.int .i64 n).wf = true := by
  obtain ⟨n, rfl⟩ := okWide_int Tryd.underlying2 hval
  obtain ⟨fuel, hf⟩ := h
  obtain ⟨n2, e, _, hw⟩ := DataW.trod_int Tryd.underlying2 hf
  refine ⟨n, rfl, ?_⟩
  have : (Value.int .i64 n).cells.toList = [.int .i64 n] := rfl
  rw [this] at e
  injection e with e
  injection e with _ e
  rw [e]
  exact hw

set_option maxRecDepth 100000 in
theorem again_str {H : Type} {enc : TypeId × Value → H} {W W' : World} {v : Value} {d : DataW H} {ps : List MemPlace} (h : DataW.Trod enc Tryd.prog W 0 (fun _ => true) true 9 v d ps) (hb : Below W.heap.size W W') (hlt : ∀ x ∈ ps, x.block < W.heap.size) :
    DataW.Trod enc Tryd.prog W' 0 (fun b => decide (b < W.heap.size)) true 9 v d ps := Below.trod Tryd.laidOut (by kernel_rfl) (of_decide_eq_true (by kernel_rfl)) h hb hlt
set_option maxRecDepth 100000 in
theorem again_truth {H : Type} {enc : TypeId × Value → H} {W W' : World} {v : Value} {d : DataW H} {ps : List MemPlace} (h : DataW.Trod enc Tryd.prog W 0 (fun _ => true) true 4 v d ps) (hb : Below W.heap.size W W') (hlt : ∀ x ∈ ps, x.block < W.heap.size) :
    DataW.Trod enc Tryd.prog W' 0 (fun b => decide (b < W.heap.size)) true 4 v d ps := Below.trod Tryd.laidOut (by kernel_rfl) (of_decide_eq_true (by kernel_rfl)) h hb hlt
set_option maxRecDepth 100000 in
theorem again_number {H : Type} {enc : TypeId × Value → H} {W W' : World} {v : Value} {d : DataW H} {ps : List MemPlace} (h : DataW.Trod enc Tryd.prog W 0 (fun _ => true) true 2 v d ps) (hb : Below W.heap.size W W') (hlt : ∀ x ∈ ps, x.block < W.heap.size) :
    DataW.Trod enc Tryd.prog W' 0 (fun b => decide (b < W.heap.size)) true 2 v d ps := Below.trod Tryd.laidOut (by kernel_rfl) (of_decide_eq_true (by kernel_rfl)) h hb hlt

end Go.Proofs.YtbmlmcoepmbelaaDoor

/-
  How two values compare: package tree's Compare and the reference's.
-/
set_option linter.unusedVariables false
set_option linter.unusedSimpArgs false
namespace Go.Proofs.YtbmlmcoepmbelaaDoor
open Go.RowKit

def cmpI (a b : Int) : Int := if a < b then -1 else if b < a then 1 else 0
def cmpB (a b : Bool) : Int := if a = b then 0 else if b then -1 else 1

theorem cmpInt_any (a b : Int) (w : World) : Calls Tryd.prog 37 #[.int .i64 a, .int .i64 b] w fun e w' => e = .returned (.int .i64 (cmpI a b)) ∧ w = w' := by
  by_cases h1 : a < b
  · have HR : Hid (cmpI a b = -1) := by show cmpI a b = -1; unfold cmpI; rw [if_pos h1]
    go_enter Tryd.func37, Tryd.ntmps37
    go_wp2
    go_ret
    exact ⟨ret_int HR.out.symm, rfl⟩
  · by_cases h2 : b < a
    · have HR : Hid (cmpI a b = 1) := by show cmpI a b = 1; unfold cmpI; rw [if_neg h1, if_pos h2]
      go_enter Tryd.func37, Tryd.ntmps37
      go_wp2
      go_ret
      exact ⟨ret_int HR.out.symm, rfl⟩
    · have HR : Hid (cmpI a b = 0) := by show cmpI a b = 0; unfold cmpI; rw [if_neg h1, if_neg h2]
      go_enter Tryd.func37, Tryd.ntmps37
      go_wp2
      go_ret
      exact ⟨ret_int HR.out.symm, rfl⟩

def cmpS (a b : ByteArray) : Int := Lib.compareBytes a.data.toList b.data.toList

set_option maxRecDepth 100000 in
theorem compareString_any (a b : ByteArray) (w : World) : Calls Tryd.prog 63 #[.string a, .string b] w fun e w' => e = .returned (.int .i64 (cmpS a b)) ∧ w = w' := by
  go_enter Tryd.func63, Tryd.ntmps63
  go_wp2
  rw [run_callFunc_extern Tryd.func80 (by kernel_rfl) (by kernel_rfl) (by kernel_rfl) (e := Extern.BytealgCompare.compare) (by kernel_rfl), Lib.run_compareString]
  simp only [Result.andThen]
  rw [Oper.upon_value]
  go_wp2
  go_ret
  exact ⟨rfl, rfl⟩

theorem cmpStr_any (a b : ByteArray) (w : World) : Calls Tryd.prog 38 #[.string a, .string b] w fun e w' => e = .returned (.int .i64 (cmpS a b)) ∧ w = w' := by
  go_enter Tryd.func38, Tryd.ntmps38
  go_wp2_with fail
  refine (compareString_any a b _).mono ?_
  rintro e w1 ⟨rfl, rfl⟩
  go_wp2_with fail
  go_ret
  exact ⟨rfl, rfl⟩

mutual
/-- How two values compare. -/
def T.cmp : T → T → Int
  | .mk k1 b1 n1 s1 l1 m1, .mk k2 b2 n2 s2 l2 m2 =>
    if k1 ≠ k2 then cmpI k1 k2 else if k1 = 1 then cmpB b1 b2 else if k1 = 2 then cmpI n1 n2 else if k1 = 3 then cmpS s1 s2 else if k1 = 4 then cmpL l1 l2 else if k1 = 5 then cmpM m1 m2 else 0
def cmpL : List T → List T → Int
  | [], [] => 0
  | [], _ :: _ => -1
  | _ :: _, [] => 1
  | x :: r, y :: q => if T.cmp x y ≠ 0 then T.cmp x y else cmpL r q
def cmpM : List (ByteArray × T) → List (ByteArray × T) → Int
  | [], [] => 0
  | [], _ :: _ => -1
  | _ :: _, [] => 1
  | (k1, x) :: r, (k2, y) :: q => if k1 ≠ k2 then (if cmpS k1 k2 ≠ 0 then cmpS k1 k2 else cmpM r q) else if T.cmp x y ≠ 0 then T.cmp x y else cmpM r q
end

/-- How two pairs compare. -/
def cmpP (p q : ByteArray × T) : Int := if p.1 ≠ q.1 then cmpS p.1 q.1 else T.cmp p.2 q.2

theorem cmpM_cons (p q : ByteArray × T) (r u : List (ByteArray × T)) : cmpM (p :: r) (q :: u) = if cmpP p q ≠ 0 then cmpP p q else cmpM r u := by
  obtain ⟨k1, x⟩ := p
  obtain ⟨k2, y⟩ := q
  rw [cmpM]
  unfold cmpP
  by_cases h : k1 ≠ k2
  · simp only [if_pos h]
  · simp only [if_neg h]
theorem T.cmp_mk (k1 : Int) (b1 : Bool) (n1 : Int) (s1 : ByteArray) (l1 : List T) (m1 : List (ByteArray × T)) (k2 : Int) (b2 : Bool) (n2 : Int) (s2 : ByteArray) (l2 : List T) (m2 : List (ByteArray × T)) :
    T.cmp (.mk k1 b1 n1 s1 l1 m1) (.mk k2 b2 n2 s2 l2 m2) = if k1 ≠ k2 then cmpI k1 k2 else if k1 = 1 then cmpB b1 b2 else if k1 = 2 then cmpI n1 n2 else if k1 = 3 then cmpS s1 s2 else if k1 = 4 then cmpL l1 l2 else if k1 = 5 then cmpM m1 m2 else 0 := by
  rw [T.cmp]


/-- Two lists, place by place; the shorter first. -/
def cmpG {α : Type} (f : α → α → Int) : List α → List α → Int
  | [], [] => 0
  | [], _ :: _ => -1
  | _ :: _, [] => 1
  | x :: r, y :: q => if f x y ≠ 0 then f x y else cmpG f r q
theorem cmpL_G : ∀ xs ys : List T, cmpL xs ys = cmpG T.cmp xs ys
  | [], [] => by rw [cmpL, cmpG]
  | [], _ :: _ => by rw [cmpL, cmpG]
  | _ :: _, [] => by rw [cmpL, cmpG]
  | x :: r, y :: q => by rw [cmpL, cmpG, cmpL_G r q]
theorem cmpM_G : ∀ xs ys : List (ByteArray × T), cmpM xs ys = cmpG cmpP xs ys
  | [], [] => by rw [cmpM, cmpG]
  | [], _ :: _ => by rw [cmpM, cmpG]
  | _ :: _, [] => by rw [cmpM, cmpG]
  | x :: r, y :: q => by rw [cmpM_cons, cmpG, cmpM_G r q]
section
variable {α : Type} (f : α → α → Int)
theorem cmpG_drop : ∀ (j : Nat) (xs ys : List α), j ≤ xs.length → j ≤ ys.length → (∀ i (p : i < xs.length) (q : i < ys.length), i < j → f xs[i] ys[i] = 0) → cmpG f xs ys = cmpG f (xs.drop j) (ys.drop j)
  | 0, _, _, _, _, _ => by simp
  | j + 1, x :: r, y :: q, p1, p2, h => by
    have h0 : f x y = 0 := h 0 (by simp) (by simp) (by omega)
    rw [cmpG, if_neg (by simp [h0]), List.drop_succ_cons, List.drop_succ_cons]
    exact cmpG_drop j r q (by simpa using p1) (by simpa using p2) (fun i a b c => by have := h (i + 1) (by simpa using a) (by simpa using b) (by omega); simpa using this)
theorem cmpG_hit (xs ys : List α) (j : Nat) (p : j < xs.length) (q : j < ys.length) (h : ∀ i (p : i < xs.length) (q : i < ys.length), i < j → f xs[i] ys[i] = 0) (hn : f xs[j] ys[j] ≠ 0) : cmpG f xs ys = f xs[j] ys[j] := by
  rw [cmpG_drop f j xs ys (by omega) (by omega) h, List.drop_eq_getElem_cons p, List.drop_eq_getElem_cons q, cmpG, if_pos hn]
theorem cmpG_long (xs ys : List α) (q : ys.length < xs.length) (h : ∀ i (p : i < xs.length) (q : i < ys.length), i < ys.length → f xs[i] ys[i] = 0) : cmpG f xs ys = 1 := by
  rw [cmpG_drop f ys.length xs ys (by omega) (by omega) h, List.drop_eq_getElem_cons q, List.drop_of_length_le (Nat.le_refl _), cmpG]
theorem cmpG_short (xs ys : List α) (q : xs.length < ys.length) (h : ∀ i (p : i < xs.length) (q : i < ys.length), i < xs.length → f xs[i] ys[i] = 0) : cmpG f xs ys = -1 := by
  rw [cmpG_drop f xs.length xs ys (by omega) (by omega) h, List.drop_eq_getElem_cons q, List.drop_of_length_le (Nat.le_refl _), cmpG]
theorem cmpG_same (xs ys : List α) (q : xs.length = ys.length) (h : ∀ i (p : i < xs.length) (q : i < ys.length), i < xs.length → f xs[i] ys[i] = 0) : cmpG f xs ys = 0 := by
  rw [cmpG_drop f xs.length xs ys (by omega) (by omega) h, List.drop_of_length_le (Nat.le_refl _), List.drop_of_length_le (by omega), cmpG]
end

end Go.Proofs.YtbmlmcoepmbelaaDoor
