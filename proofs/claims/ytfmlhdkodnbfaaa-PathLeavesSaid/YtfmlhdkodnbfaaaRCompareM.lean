/-
  The reference's Compare: it is package tree's.
-/
import Derived.Test.YtfmlhdkodnbfaaaGood
import Derived.Test.YtfmlhdkodnbfaaaCloneP
import Derived.Lib.QuietBelow
import Derived.Test.YtfmlhdkodnbfaaaMapTopM
import Derived.Test.YtfmlhdkodnbfaaaRightM
import Derived.Test.YtfmlhdkodnbfaaaRSame
import Derived.Test.YtfmlhdkodnbfaaaGet
set_option linter.unusedVariables false
set_option linter.unusedSimpArgs false
namespace Go.Proofs.Ytfmlhdkodnbfaaa
open Go.RowKit Go.Sort

def befV (a b : Bool) : Int := if a = true then -1 else if b = true then 1 else 0
theorem below_of_eq {P : Program} {f : FuncId} {args : Array Value} {w : World} {v : Value} (h : Calls P f args w fun e w' => e = .returned v ∧ w = w') : Calls P f args w fun e w' => e = .returned v ∧ Below w.heap.size w w' :=
  h.mono fun e w' h => ⟨h.1, h.2 ▸ Below.refl _ _⟩

theorem bytesLess_G : ∀ a b : List UInt8, cmpG cmpU a b = befV (Op.bytesLess a b) (Op.bytesLess b a)
  | [], [] => by rw [cmpG]; simp [Op.bytesLess, befV]
  | [], _ :: _ => by rw [cmpG]; simp [Op.bytesLess, befV]
  | _ :: _, [] => by rw [cmpG]; simp [Op.bytesLess, befV]
  | x :: r, y :: q => by
    rw [cmpG, bytesLess_G r q, Op.bytesLess, Op.bytesLess]
    unfold cmpU cmpI befV
    by_cases h : x.toNat < y.toNat
    · simp [h, UInt8.lt_iff_toNat_lt]
    · by_cases h2 : y.toNat < x.toNat
      · have hne : x ≠ y := fun e => by subst e; omega
        simp [h, h2, UInt8.lt_iff_toNat_lt, hne]
      · have e : x = y := by
          have : x.toNat = y.toNat := by omega
          exact UInt8.toNat_inj.1 this
        subst e
        simp
theorem cmpS_less (a b : ByteArray) : cmpS a b = befV (Op.bytesLess a.toList b.toList) (Op.bytesLess b.toList a.toList) := by
  unfold cmpS
  rw [compareBytes_G, bytesLess_G, ByteArray.toList_eq, ByteArray.toList_eq]
theorem cmpS_ne {a b : ByteArray} (h : a ≠ b) : cmpS a b ≠ 0 := fun e => h (cmpS_zero e)
theorem cmpS_before {a b : ByteArray} (h : a ≠ b) : cmpS a b = befV (Op.bytesLess a.toList b.toList) true := by
  unfold befV
  have h1 := cmpS_less a b
  unfold befV at h1
  have h2 := cmpS_ne h
  by_cases e : Op.bytesLess a.toList b.toList = true
  · rw [if_pos e] at h1 ⊢; exact h1
  · rw [if_neg e] at h1 ⊢
    by_cases e2 : Op.bytesLess b.toList a.toList = true
    · rw [if_pos e2] at h1; rw [h1]; rfl
    · rw [if_neg e2] at h1; exact absurd h1 h2
theorem less_gtr (a b : ByteArray) : Op.bytesLess b.toList a.toList = (!Op.bytesLess a.toList b.toList && !a.toList == b.toList) := by
  have h1 := cmpS_less a b
  have h2 := cmpS_less b a
  have h3 := (ord_cmpS a).anti b
  rw [h1, h2] at h3
  by_cases e : a = b
  · subst e
    cases hx : Op.bytesLess a.toList a.toList with
    | true => rw [hx] at h3; exact absurd h3 (by decide)
    | false => simp
  · rw [str_ne e]
    have h4 := cmpS_ne e
    rw [h1] at h4
    revert h3 h4
    cases Op.bytesLess a.toList b.toList <;> cases Op.bytesLess b.toList a.toList <;> decide
theorem cmpS_gtr (a b : ByteArray) : cmpS a b = befV (Op.bytesLess a.toList b.toList) (!Op.bytesLess a.toList b.toList && !a.toList == b.toList) := (cmpS_less a b).trans (congrArg (befV _) (less_gtr a b))
theorem cmpP_key {p q : ByteArray × T} (h : p.1 ≠ q.1) : cmpP p q = cmpS p.1 q.1 := by unfold cmpP; rw [if_pos h]

end Go.Proofs.Ytfmlhdkodnbfaaa

/-
  What counts as true: package tree's Truth and the reference's.
-/
set_option linter.unusedVariables false
set_option linter.unusedSimpArgs false
namespace Go.Proofs.Ytfmlhdkodnbfaaa
open Go.RowKit Go.Sort

def nz (n : Int) : Bool := n != 0
def ne0 (s : ByteArray) : Bool := !s.toList.isEmpty
def pos (n : Nat) : Bool := decide (0 < n)

/-- What counts as true. -/
def countsB (k : Int) (b : Bool) (n : Int) (s : ByteArray) (ll ml : Nat) : Bool := if k = 1 then b else if k = 2 then nz n else if k = 3 then ne0 s else if k = 4 then pos ll else if k = 5 then pos ml else false

end Go.Proofs.Ytfmlhdkodnbfaaa

/-
  TreeCompares, walked.
-/
set_option linter.unusedVariables false
set_option linter.unusedSimpArgs false
namespace Go.Proofs.Ytfmlhdkodnbfaaa
open Go.RowKit Go.Sort

/-- Two values behind each other in a new block. -/
theorem two_values {w1 : World} {R1 R2 : Nat → Prop} {t u : T} {k k' : Int} {b b' : Bool} {n n' : Int} {s s' : ByteArray} {la la' : Option Addr} {ll ll' lc lc' : Nat} {ma ma' : Option Addr} {ml ml' mc mc' : Nat}
    (h1 : Lies w1 R1 t #[.int .i64 k, .bool b, .int .i64 n, .string s, .slice la ll lc, .slice ma ml mc]) (h2 : Lies w1 R2 u #[.int .i64 k', .bool b', .int .i64 n', .string s', .slice la' ll' lc', .slice ma' ml' mc']) :
    SliceV (w1.alloc (.cells #[.int .i64 k, .bool b, .int .i64 n, .string s, .slice la ll lc, .slice ma ml mc, .int .i64 k', .bool b', .int .i64 n', .string s', .slice la' ll' lc', .slice ma' ml' mc'] 25)) (fun _ => True) [t, u] (some ⟨w1.heap.size, 0, none⟩) 2
      (fun i => if i = 0 then #[.int .i64 k, .bool b, .int .i64 n, .string s, .slice la ll lc, .slice ma ml mc] else #[.int .i64 k', .bool b', .int .i64 n', .string s', .slice la' ll' lc', .slice ma' ml' mc']) := by
  have hb := Below.alloc (Below.refl w1.heap.size w1) (Nat.le_refl _) (.cells #[.int .i64 k, .bool b, .int .i64 n, .string s, .slice la ll lc, .slice ma ml mc, .int .i64 k', .bool b', .int .i64 n', .string s', .slice la' ll' lc', .slice ma' ml' mc'] 25)
  refine ⟨⟨Nat.le_refl 2, (by decide : 2 * 88 ≤ 140737488355328), by simp, fun _ => ⟨_, _, rfl, trivial⟩, by omega⟩, fun i hi bl ol e => ?_, fun i hi => ?_⟩
  · simp only [Option.some.injEq, Addr.mk.injEq, and_true] at e
    obtain ⟨rfl, rfl⟩ := e
    have hi3 : i < 2 := hi
    intro j hj
    have hj6 : j < 6 := by
      rcases (by omega : i = 0 ∨ i = 1) with rfl | rfl <;> exact hj
    rw [Nat.zero_add, World.cell?_alloc_new]
    rcases (by omega : i = 0 ∨ i = 1) with rfl | rfl <;> rcases (by omega : j = 0 ∨ j = 1 ∨ j = 2 ∨ j = 3 ∨ j = 4 ∨ j = 5) with rfl | rfl | rfl | rfl | rfl | rfl <;> rfl
  · have hi3 : i < 2 := hi
    rcases (by omega : i = 0 ∨ i = 1) with rfl | rfl
    · exact (h1.later hb).weaken fun _ _ => trivial
    · exact (h2.later hb).weaken fun _ _ => trivial

/-- The boxes of two arguments, later. -/
theorem arg_boxes2 {w wr : World} {A B : Array Value} {t1 t2 : TypeId} {o3 : Obj} {N : Nat} (h : Below N (((w.alloc (.cells A t1)).alloc (.cells B t2)).alloc o3) wr) (hN : w.heap.size + 2 ≤ N) (j : Nat) :
    wr.cell? ⟨w.heap.size, j, none⟩ = A[j]? ∧ wr.cell? ⟨w.heap.size + 1, j, none⟩ = B[j]? := by
  have e1 : w.heap.size + 1 = (w.alloc (.cells A t1)).heap.size := by simp
  refine ⟨?_, ?_⟩
  · rw [h.cell (p := ⟨w.heap.size, j, none⟩) (by simp only; omega), World.cell?_alloc_lt _ _ _ (by simp; omega), World.cell?_alloc_lt _ _ _ (by simp), World.cell?_alloc_new]
  · rw [h.cell (p := ⟨w.heap.size + 1, j, none⟩) (by simp only; omega), World.cell?_alloc_lt _ _ _ (by simp), e1, World.cell?_alloc_new]

end Go.Proofs.Ytfmlhdkodnbfaaa

/-
  A map with a value under a key, and without one: on the trees alone.
-/
set_option linter.unusedVariables false
set_option linter.unusedSimpArgs false
namespace Go.Proofs.Ytfmlhdkodnbfaaa
open Go.RowKit

/-- Go's '<' on texts. -/
def ltS (a b : ByteArray) : Bool := Op.bytesLess a.toList b.toList

/-- The pairs below, this one, the pairs above. -/
def putR (key : ByteArray) (x : T) : List (ByteArray × T) → List (ByteArray × T)
  | [] => [(key, x)]
  | p :: r => if ltS p.1 key = true then p :: putR key x r else if p.1 = key then (key, x) :: r else (key, x) :: p :: r

/-- What is under a key. -/
def findR (key : ByteArray) (m : List (ByteArray × T)) : Option T := (m.find? fun p => decide (p.1 = key)).map (·.2)

theorem findR_skip {key : ByteArray} {p : ByteArray × T} {r : List (ByteArray × T)} (h : p.1 ≠ key) : findR key (p :: r) = findR key r := by
  unfold findR
  rw [List.find?_cons_of_neg (by simpa using h)]
theorem findR_here {key : ByteArray} {p : ByteArray × T} {r : List (ByteArray × T)} (h : p.1 = key) : findR key (p :: r) = some p.2 := by
  unfold findR
  rw [List.find?_cons_of_pos (by simpa using h)]
  rfl

theorem ltS_ne {a b : ByteArray} (h : ltS a b = true) (irr : ∀ l, Op.bytesLess l l = false) : a ≠ b := fun e => by
  subst e
  unfold ltS at h
  rw [irr] at h
  cases h

theorem bytesLess_irr : ∀ l : List UInt8, Op.bytesLess l l = false
  | [] => rfl
  | x :: r => by
    rw [Op.bytesLess]
    simp [bytesLess_irr r]

theorem ltS_irr (a : ByteArray) : ltS a a = false := bytesLess_irr _

theorem putR_lt {key : ByteArray} {x : T} {p : ByteArray × T} {r : List (ByteArray × T)} (h : ltS p.1 key = true) : putR key x (p :: r) = p :: putR key x r := by rw [putR, if_pos h]
theorem putR_eq {key : ByteArray} {x : T} {p : ByteArray × T} {r : List (ByteArray × T)} (h : p.1 = key) : putR key x (p :: r) = (key, x) :: r := by
  rw [putR, if_neg (by rw [h, ltS_irr]; simp), if_pos h]
theorem putR_gt {key : ByteArray} {x : T} {p : ByteArray × T} {r : List (ByteArray × T)} (h : ltS p.1 key = false) (h2 : p.1 ≠ key) : putR key x (p :: r) = (key, x) :: p :: r := by
  rw [putR, if_neg (by simp [h]), if_neg h2]

theorem putR_cases (p : ByteArray × T) (key : ByteArray) : (ltS p.1 key = true ∧ p.1 ≠ key) ∨ (p.1 = key) ∨ (ltS p.1 key = false ∧ p.1 ≠ key) := by
  by_cases h : p.1 = key
  · exact .inr (.inl h)
  · cases h2 : ltS p.1 key with
    | true => exact .inl ⟨rfl, h⟩
    | false => exact .inr (.inr ⟨rfl, h⟩)

theorem putR_find (key : ByteArray) (x : T) : ∀ m, findR key (putR key x m) = some x
  | [] => findR_here rfl
  | p :: r => by
    rcases putR_cases p key with ⟨h, hn⟩ | h | ⟨h, hn⟩
    · rw [putR_lt h, findR_skip hn, putR_find key x r]
    · rw [putR_eq h]; exact findR_here rfl
    · rw [putR_gt h hn]; exact findR_here rfl

theorem putR_other (key other : ByteArray) (x : T) (ho : other ≠ key) : ∀ m, findR other (putR key x m) = findR other m
  | [] => by
    show findR other [(key, x)] = findR other []
    exact findR_skip (p := (key, x)) (fun e => ho e.symm)
  | p :: r => by
    rcases putR_cases p key with ⟨h, hn⟩ | h | ⟨h, hn⟩
    · rw [putR_lt h]
      by_cases e : p.1 = other
      · rw [findR_here e, findR_here e]
      · rw [findR_skip e, findR_skip e, putR_other key other x ho r]
    · rw [putR_eq h, findR_skip (p := p) (by rw [h]; exact fun e => ho e.symm)]; exact findR_skip (p := (key, x)) (fun e => ho e.symm)
    · rw [putR_gt h hn]; exact findR_skip (p := (key, x)) (fun e => ho e.symm)

theorem putR_twice (key : ByteArray) (x y : T) : ∀ m, putR key x (putR key y m) = putR key x m
  | [] => by
    show putR key x [(key, y)] = [(key, x)]
    exact putR_eq (p := (key, y)) rfl
  | p :: r => by
    rcases putR_cases p key with ⟨h, hn⟩ | h | ⟨h, hn⟩
    · rw [putR_lt h, putR_lt h, putR_lt h, putR_twice key x y r]
    · rw [putR_eq h, putR_eq h]; exact putR_eq (p := (key, y)) rfl
    · rw [putR_gt h hn, putR_gt h hn]; exact putR_eq (p := (key, y)) rfl

/-- Without a key. -/
def dropR (key : ByteArray) (m : List (ByteArray × T)) : List (ByteArray × T) := m.filter fun p => !decide (p.1 = key)
theorem dropR_find (key : ByteArray) (m : List (ByteArray × T)) : findR key (dropR key m) = none := by
  unfold findR dropR
  rw [List.find?_eq_none.2 fun p hp => by have := (List.mem_filter.1 hp).2; simpa using this]
  rfl

/-- A map with a value under a key; of others a map with that alone. -/
def T.put (t : T) (key : ByteArray) (x : T) : T := .mk 5 false 0 ⟨#[]⟩ [] (putR key x t.pairs)
/-- A map without a key; others are as they are. -/
def T.drop (t : T) (key : ByteArray) : T := if t.kind = 5 then .mk 5 false 0 ⟨#[]⟩ [] (dropR key t.map) else t

theorem T.get_find (t : T) (key : ByteArray) : t.get key = findR key t.pairs := rfl
theorem put_pairs (t : T) (key : ByteArray) (x : T) : (t.put key x).pairs = putR key x t.pairs := by rw [T.put, T.pairs, if_pos rfl]
theorem get_put (t : T) (key : ByteArray) (x : T) : (t.put key x).get key = some x := by rw [T.get_find, put_pairs, putR_find]
theorem get_put_other (t : T) (key other : ByteArray) (x : T) (h : other ≠ key) : (t.put key x).get other = t.get other := by rw [T.get_find, put_pairs, putR_other key other x h, T.get_find]
theorem put_put (t : T) (key : ByteArray) (x y : T) : (t.put key y).put key x = t.put key x := by
  rw [T.put, put_pairs, putR_twice, T.put]
theorem get_drop (t : T) (key : ByteArray) : (t.drop key).get key = none := by
  obtain ⟨k, b, n, s, l, m⟩ := t
  unfold T.drop
  by_cases h : k = 5
  · rw [if_pos (show (T.mk k b n s l m).kind = 5 from h), T.get_find, T.pairs, if_pos rfl, dropR_find]
  · rw [if_neg (show ¬ (T.mk k b n s l m).kind = 5 from h), T.get_find, T.pairs, if_neg h]
    rfl

end Go.Proofs.Ytfmlhdkodnbfaaa
