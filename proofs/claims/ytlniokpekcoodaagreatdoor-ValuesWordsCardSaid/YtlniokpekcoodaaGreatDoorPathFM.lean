/-
  Package path's find.
-/
import Derived.Test.YtlniokpekcoodaaGreatDoorPathG
import Derived.Deep.DeepCutAuto
import Derived.Test.YtlniokpekcoodaaGreatDoorVals
import Derived.Lib.Bytealg
set_option linter.unusedVariables false
set_option linter.unusedSimpArgs false
namespace Go.Proofs.YtlniokpekcoodaaGreatDoor
open Go.RowKit

/-- A text of a slice, in a later world. -/
theorem SliceS.at {w0 w : World} {ks : List ByteArray} {a : Option Addr} {cap : Nat} (h : SliceS w0 ks a cap) (hw : Below w0.heap.size w0 w) {j : Nat} (hj : j < ks.length) : ∃ b off, a = some ⟨b, off, none⟩ ∧ w.cell? ⟨b, off + j, none⟩ = some (.string ks[j]) := by
  obtain ⟨b, off, e⟩ := h.ofSome (by omega)
  exact ⟨b, off, e, cells_frame hw (h.cell j hj b off e)⟩

/-- Six cells of a box. -/
def Box6 (w : World) (g : Nat) (cs : Array Value) : Prop := ∀ j, j < 6 → w.cell? ⟨g, j, none⟩ = cs[j]?
def Thaw (w : World) (g : Nat) : Prop := ∀ j, w.frozen? ⟨g, j, none⟩ = false
theorem Box6.later {w w' : World} {g : Nat} {cs : Array Value} {B : Nat} (h : Box6 w g cs) (hb : Below B w w') (hg : g < B) : Box6 w' g cs := fun j hj => (hb.cell (p := ⟨g, j, none⟩) hg).trans (h j hj)
theorem Thaw.later {w w' : World} {g : Nat} {B : Nat} (h : Thaw w g) (hb : Below B w w') (hg : g < B) : Thaw w' g := fun j => (hb.frozen (p := ⟨g, j, none⟩) hg).trans (h j)
theorem Box6.six {w : World} {g : Nat} {c0 c1 c2 c3 c4 c5 : Value} (h : Box6 w g #[c0, c1, c2, c3, c4, c5]) : w.cell? ⟨g, 0, none⟩ = some c0 ∧ w.cell? ⟨g, 1, none⟩ = some c1 ∧ w.cell? ⟨g, 2, none⟩ = some c2 ∧ w.cell? ⟨g, 3, none⟩ = some c3 ∧ w.cell? ⟨g, 4, none⟩ = some c4 ∧ w.cell? ⟨g, 5, none⟩ = some c5 :=
  ⟨h 0 (by omega), h 1 (by omega), h 2 (by omega), h 3 (by omega), h 4 (by omega), h 5 (by omega)⟩
theorem Thaw.six {w : World} {g : Nat} (h : Thaw w g) : w.frozen? ⟨g, 0, none⟩ = false ∧ w.frozen? ⟨g, 1, none⟩ = false ∧ w.frozen? ⟨g, 2, none⟩ = false ∧ w.frozen? ⟨g, 3, none⟩ = false ∧ w.frozen? ⟨g, 4, none⟩ = false ∧ w.frozen? ⟨g, 5, none⟩ = false :=
  ⟨h 0, h 1, h 2, h 3, h 4, h 5⟩
theorem Box6.new (w : World) (cs : Array Value) (t : TypeId) : Box6 (w.alloc (.cells cs t)) w.heap.size cs := fun j _ => by rw [World.cell?_alloc_new]
theorem Thaw.new (w : World) (cs : Array Value) (t : TypeId) : Thaw (w.alloc (.cells cs t)) w.heap.size := fun j => by rw [World.frozen?_alloc_new]
/-- .. stored anew. -/
theorem Box6.store {w : World} {g : Nat} {cs : Array Value} (h : Box6 w g cs) (hs : cs.size = 6) (v0 v1 v2 v3 v4 v5 : Value) : Box6 (setRow w g 0 [v0, v1, v2, v3, v4, v5]) g #[v0, v1, v2, v3, v4, v5] := fun j hj => by
  have := setRow_cell g [v0, v1, v2, v3, v4, v5] w 0 (fun i hi => ⟨cs[i]'(by rw [hs]; exact hi), by rw [Nat.zero_add, h i hi]; exact Array.getElem?_eq_getElem (by rw [hs]; exact hi)⟩) j hj
  rw [Nat.zero_add] at this
  rw [this]
  rcases (by omega : j = 0 ∨ j = 1 ∨ j = 2 ∨ j = 3 ∨ j = 4 ∨ j = 5) with rfl | rfl | rfl | rfl | rfl | rfl <;> rfl
theorem Thaw.store {w : World} {g g2 : Nat} (h : Thaw w g) (l : List Value) (o : Nat) : Thaw (setRow w g2 o l) g := fun j => by rw [setRow_frozen]; exact h j
theorem Box6.other {w : World} {g g2 : Nat} {cs : Array Value} (h : Box6 w g cs) (hg : g ≠ g2) (l : List Value) (o : Nat) : Box6 (setRow w g2 o l) g cs := fun j hj => by
  have e := h j hj
  unfold World.cell? at e ⊢
  rw [setRow_heap _ _ _ _ _ hg]
  exact e
theorem Lies.sized {w : World} {R : Nat → Prop} {t : T} {cs : Array Value} (h : Lies w R t cs) : cs.size = 6 := h.size6

end Go.Proofs.YtlniokpekcoodaaGreatDoor

/-
  How two values compare: package tree's Compare and the reference's.
-/
set_option linter.unusedVariables false
set_option linter.unusedSimpArgs false
namespace Go.Proofs.YtlniokpekcoodaaGreatDoor
open Go.RowKit

def cmpI (a b : Int) : Int := if a < b then -1 else if b < a then 1 else 0
def cmpB (a b : Bool) : Int := if a = b then 0 else if b then -1 else 1

def cmpS (a b : ByteArray) : Int := Lib.compareBytes a.data.toList b.data.toList

set_option maxRecDepth 100000 in
theorem compareString_any (a b : ByteArray) (w : World) : Calls Tryz.prog 71 #[.string a, .string b] w fun e w' => e = .returned (.int .i64 (cmpS a b)) ∧ w = w' := by
  go_enter Tryz.func71, Tryz.ntmps71
  go_wp2
  rw [run_callFunc_extern Tryz.func99 (by kernel_rfl) (by kernel_rfl) (by kernel_rfl) (e := Extern.BytealgCompare.compare) (by kernel_rfl), Lib.run_compareString]
  simp only [Result.andThen]
  rw [Oper.upon_value]
  go_wp2
  go_ret
  exact ⟨rfl, rfl⟩

theorem cmpStr_any (a b : ByteArray) (w : World) : Calls Tryz.prog 47 #[.string a, .string b] w fun e w' => e = .returned (.int .i64 (cmpS a b)) ∧ w = w' := by
  go_enter Tryz.func47, Tryz.ntmps47
  go_wp2_with fail
  refine (compareString_any a b _).mono ?_
  rintro e w1 ⟨rfl, rfl⟩
  go_wp2_with fail
  go_ret
  exact ⟨rfl, rfl⟩

mutual
/-- How two values compare. -/
def T.cmp : T → T → Int
  | .mk k1 b1 n1 s1 l1 m1, .mk k2 b2 n2 s2 l2 m2 =>
    if k1 ≠ k2 then cmpI k1 k2 else if k1 = 1 then cmpB b1 b2 else if k1 = 2 then cmpI n1 n2 else if k1 = 3 then cmpS s1 s2 else if k1 = 4 then cmpL l1 l2 else if k1 = 5 then cmpM m1 m2 else 0
def cmpL : List T → List T → Int
  | [], [] => 0
  | [], _ :: _ => -1
  | _ :: _, [] => 1
  | x :: r, y :: q => if T.cmp x y ≠ 0 then T.cmp x y else cmpL r q
def cmpM : List (ByteArray × T) → List (ByteArray × T) → Int
  | [], [] => 0
  | [], _ :: _ => -1
  | _ :: _, [] => 1
  | (k1, x) :: r, (k2, y) :: q => if k1 ≠ k2 then (if cmpS k1 k2 ≠ 0 then cmpS k1 k2 else cmpM r q) else if T.cmp x y ≠ 0 then T.cmp x y else cmpM r q
end

/-- How two pairs compare. -/
def cmpP (p q : ByteArray × T) : Int := if p.1 ≠ q.1 then cmpS p.1 q.1 else T.cmp p.2 q.2

theorem cmpM_cons (p q : ByteArray × T) (r u : List (ByteArray × T)) : cmpM (p :: r) (q :: u) = if cmpP p q ≠ 0 then cmpP p q else cmpM r u := by
  obtain ⟨k1, x⟩ := p
  obtain ⟨k2, y⟩ := q
  rw [cmpM]
  unfold cmpP
  by_cases h : k1 ≠ k2
  · simp only [if_pos h]
  · simp only [if_neg h]
theorem T.cmp_mk (k1 : Int) (b1 : Bool) (n1 : Int) (s1 : ByteArray) (l1 : List T) (m1 : List (ByteArray × T)) (k2 : Int) (b2 : Bool) (n2 : Int) (s2 : ByteArray) (l2 : List T) (m2 : List (ByteArray × T)) :
    T.cmp (.mk k1 b1 n1 s1 l1 m1) (.mk k2 b2 n2 s2 l2 m2) = if k1 ≠ k2 then cmpI k1 k2 else if k1 = 1 then cmpB b1 b2 else if k1 = 2 then cmpI n1 n2 else if k1 = 3 then cmpS s1 s2 else if k1 = 4 then cmpL l1 l2 else if k1 = 5 then cmpM m1 m2 else 0 := by
  rw [T.cmp]


/-- Two lists, place by place; the shorter first. -/
def cmpG {α : Type} (f : α → α → Int) : List α → List α → Int
  | [], [] => 0
  | [], _ :: _ => -1
  | _ :: _, [] => 1
  | x :: r, y :: q => if f x y ≠ 0 then f x y else cmpG f r q
theorem cmpL_G : ∀ xs ys : List T, cmpL xs ys = cmpG T.cmp xs ys
  | [], [] => by rw [cmpL, cmpG]
  | [], _ :: _ => by rw [cmpL, cmpG]
  | _ :: _, [] => by rw [cmpL, cmpG]
  | x :: r, y :: q => by rw [cmpL, cmpG, cmpL_G r q]
theorem cmpM_G : ∀ xs ys : List (ByteArray × T), cmpM xs ys = cmpG cmpP xs ys
  | [], [] => by rw [cmpM, cmpG]
  | [], _ :: _ => by rw [cmpM, cmpG]
  | _ :: _, [] => by rw [cmpM, cmpG]
  | x :: r, y :: q => by rw [cmpM_cons, cmpG, cmpM_G r q]
section
variable {α : Type} (f : α → α → Int)
theorem cmpG_drop : ∀ (j : Nat) (xs ys : List α), j ≤ xs.length → j ≤ ys.length → (∀ i (p : i < xs.length) (q : i < ys.length), i < j → f xs[i] ys[i] = 0) → cmpG f xs ys = cmpG f (xs.drop j) (ys.drop j)
  | 0, _, _, _, _, _ => by simp
  | j + 1, x :: r, y :: q, p1, p2, h => by
    have h0 : f x y = 0 := h 0 (by simp) (by simp) (by omega)
    rw [cmpG, if_neg (by simp [h0]), List.drop_succ_cons, List.drop_succ_cons]
    exact cmpG_drop j r q (by simpa using p1) (by simpa using p2) (fun i a b c => by have := h (i + 1) (by simpa using a) (by simpa using b) (by omega); simpa using this)
theorem cmpG_hit (xs ys : List α) (j : Nat) (p : j < xs.length) (q : j < ys.length) (h : ∀ i (p : i < xs.length) (q : i < ys.length), i < j → f xs[i] ys[i] = 0) (hn : f xs[j] ys[j] ≠ 0) : cmpG f xs ys = f xs[j] ys[j] := by
  rw [cmpG_drop f j xs ys (by omega) (by omega) h, List.drop_eq_getElem_cons p, List.drop_eq_getElem_cons q, cmpG, if_pos hn]
theorem cmpG_long (xs ys : List α) (q : ys.length < xs.length) (h : ∀ i (p : i < xs.length) (q : i < ys.length), i < ys.length → f xs[i] ys[i] = 0) : cmpG f xs ys = 1 := by
  rw [cmpG_drop f ys.length xs ys (by omega) (by omega) h, List.drop_eq_getElem_cons q, List.drop_of_length_le (Nat.le_refl _), cmpG]
theorem cmpG_short (xs ys : List α) (q : xs.length < ys.length) (h : ∀ i (p : i < xs.length) (q : i < ys.length), i < xs.length → f xs[i] ys[i] = 0) : cmpG f xs ys = -1 := by
  rw [cmpG_drop f xs.length xs ys (by omega) (by omega) h, List.drop_eq_getElem_cons q, List.drop_of_length_le (Nat.le_refl _), cmpG]
theorem cmpG_same (xs ys : List α) (q : xs.length = ys.length) (h : ∀ i (p : i < xs.length) (q : i < ys.length), i < xs.length → f xs[i] ys[i] = 0) : cmpG f xs ys = 0 := by
  rw [cmpG_drop f xs.length xs ys (by omega) (by omega) h, List.drop_of_length_le (Nat.le_refl _), List.drop_of_length_le (by omega), cmpG]
end

end Go.Proofs.YtlniokpekcoodaaGreatDoor
