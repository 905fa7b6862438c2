/-
  What counts as true: package tree's Truth and the reference's.
-/
import Derived.Test.YtfhonjjhladddaaAwake
import Derived.Lib.QuietBelow
import Derived.Test.YtfhonjjhladddaaLawOrdersM
import Derived.Test.YtfhonjjhladddaaRSame
import Derived.Test.YtfhonjjhladddaaRCompareM
import Derived.Test.YtfhonjjhladddaaLaid
import Derived.Test.YtfhonjjhladddaaAwake3
import Derived.Test.YtfhonjjhladddaaRight
import Derived.Test.YtfhonjjhladddaaGood
import Derived.Deep.RegionHeld3
set_option linter.unusedVariables false
set_option linter.unusedSimpArgs false
namespace Go.Proofs.Ytfhonjjhladddaa
open Go.RowKit Go.Sort

def nz (n : Int) : Bool := n != 0
def ne0 (s : ByteArray) : Bool := !s.toList.isEmpty
def pos (n : Nat) : Bool := decide (0 < n)

/-- What counts as true. -/
def countsB (k : Int) (b : Bool) (n : Int) (s : ByteArray) (ll ml : Nat) : Bool := if k = 1 then b else if k = 2 then nz n else if k = 3 then ne0 s else if k = 4 then pos ll else if k = 5 then pos ml else false

end Go.Proofs.Ytfhonjjhladddaa

/-
  TreeCompares, walked.
-/
set_option linter.unusedVariables false
set_option linter.unusedSimpArgs false
namespace Go.Proofs.Ytfhonjjhladddaa
open Go.RowKit Go.Sort

/-- Two values behind each other in a new block. -/
theorem two_values {w1 : World} {R1 R2 : Nat → Prop} {t u : T} {k k' : Int} {b b' : Bool} {n n' : Int} {s s' : ByteArray} {la la' : Option Addr} {ll ll' lc lc' : Nat} {ma ma' : Option Addr} {ml ml' mc mc' : Nat}
    (h1 : Lies w1 R1 t #[.int .i64 k, .bool b, .int .i64 n, .string s, .slice la ll lc, .slice ma ml mc]) (h2 : Lies w1 R2 u #[.int .i64 k', .bool b', .int .i64 n', .string s', .slice la' ll' lc', .slice ma' ml' mc']) :
    SliceV (w1.alloc (.cells #[.int .i64 k, .bool b, .int .i64 n, .string s, .slice la ll lc, .slice ma ml mc, .int .i64 k', .bool b', .int .i64 n', .string s', .slice la' ll' lc', .slice ma' ml' mc'] 25)) (fun _ => True) [t, u] (some ⟨w1.heap.size, 0, none⟩) 2
      (fun i => if i = 0 then #[.int .i64 k, .bool b, .int .i64 n, .string s, .slice la ll lc, .slice ma ml mc] else #[.int .i64 k', .bool b', .int .i64 n', .string s', .slice la' ll' lc', .slice ma' ml' mc']) := by
  have hb := Below.alloc (Below.refl w1.heap.size w1) (Nat.le_refl _) (.cells #[.int .i64 k, .bool b, .int .i64 n, .string s, .slice la ll lc, .slice ma ml mc, .int .i64 k', .bool b', .int .i64 n', .string s', .slice la' ll' lc', .slice ma' ml' mc'] 25)
  refine ⟨⟨Nat.le_refl 2, (by decide : 2 * 88 ≤ 140737488355328), by simp, fun _ => ⟨_, _, rfl, trivial⟩, by omega⟩, fun i hi bl ol e => ?_, fun i hi => ?_⟩
  · simp only [Option.some.injEq, Addr.mk.injEq, and_true] at e
    obtain ⟨rfl, rfl⟩ := e
    have hi3 : i < 2 := hi
    intro j hj
    have hj6 : j < 6 := by
      rcases (by omega : i = 0 ∨ i = 1) with rfl | rfl <;> exact hj
    rw [Nat.zero_add, World.cell?_alloc_new]
    rcases (by omega : i = 0 ∨ i = 1) with rfl | rfl <;> rcases (by omega : j = 0 ∨ j = 1 ∨ j = 2 ∨ j = 3 ∨ j = 4 ∨ j = 5) with rfl | rfl | rfl | rfl | rfl | rfl <;> rfl
  · have hi3 : i < 2 := hi
    rcases (by omega : i = 0 ∨ i = 1) with rfl | rfl
    · exact (h1.later hb).weaken fun _ _ => trivial
    · exact (h2.later hb).weaken fun _ _ => trivial

/-- The boxes of two arguments, later. -/
theorem arg_boxes2 {w wr : World} {A B : Array Value} {t1 t2 : TypeId} {o3 : Obj} {N : Nat} (h : Below N (((w.alloc (.cells A t1)).alloc (.cells B t2)).alloc o3) wr) (hN : w.heap.size + 2 ≤ N) (j : Nat) :
    wr.cell? ⟨w.heap.size, j, none⟩ = A[j]? ∧ wr.cell? ⟨w.heap.size + 1, j, none⟩ = B[j]? := by
  have e1 : w.heap.size + 1 = (w.alloc (.cells A t1)).heap.size := by simp
  refine ⟨?_, ?_⟩
  · rw [h.cell (p := ⟨w.heap.size, j, none⟩) (by simp only; omega), World.cell?_alloc_lt _ _ _ (by simp; omega), World.cell?_alloc_lt _ _ _ (by simp), World.cell?_alloc_new]
  · rw [h.cell (p := ⟨w.heap.size + 1, j, none⟩) (by simp only; omega), World.cell?_alloc_lt _ _ _ (by simp), e1, World.cell?_alloc_new]

end Go.Proofs.Ytfhonjjhladddaa

/-
  How large what is laid over each other is.
-/
set_option linter.unusedVariables false
namespace Go.Proofs.Ytfhonjjhladddaa
open Go.RowKit Go.Sort

def szR (ps : Prs) : Nat := (ps.map fun p => p.2.size).sum
theorem szR_nil : szR [] = 0 := rfl
theorem szR_cons (p : ByteArray × T) (r : Prs) : szR (p :: r) = p.2.size + szR r := by simp [szR]
theorem szR_append (a b : Prs) : szR (a ++ b) = szR a + szR b := by simp [szR]
theorem nil_size : T.nil.size = 1 := by unfold T.nil; rw [T.size_mk]; simp

theorem cut_sz (key : ByteArray) : ∀ ps : Prs, szR (cutB key ps) + (cutH key ps).size + szR (cutA key ps) ≤ szR ps + 1
  | [] => by rw [cutB, cutH, cutA, nil_size, szR_nil]; omega
  | p :: r => by
    have := cut_sz key r
    rw [cutB, cutH, cutA]
    by_cases h : ltS p.1 key = true
    · rw [if_pos h, if_pos h, if_pos h, szR_cons, szR_cons]; omega
    · rw [if_neg h, if_neg h, if_neg h, szR_nil]
      by_cases e : p.1 = key
      · rw [if_pos e, if_pos e, szR_cons]; omega
      · rw [if_neg e, if_neg e, nil_size]; omega

theorem overR_sz {m : Prs} (ih : ∀ p ∈ m, ∀ t : T, (T.over t p.2).size + 1 ≤ t.size + p.2.size) : ∀ rest : Prs, szR (overR rest m) ≤ szR rest + szR m := by
  induction m with
  | nil => intro rest; rw [overR_nil]; omega
  | cons p r ihr =>
    intro rest
    have h1 := ihr (fun q hq => ih q (by simp [hq])) (cutA p.1 rest)
    have h2 := cut_sz p.1 rest
    have h3 := ih p (by simp) (cutH p.1 rest)
    have h4 := size_posL (cutH p.1 rest)
    rw [overR_cons, szR_append, szR_append, szR_cons]
    by_cases h0 : p.2.kind = 0
    · rw [if_pos h0, szR_nil]; omega
    · rw [if_neg h0, szR_cons, szR_nil]
      dsimp only
      omega

theorem pairs_sz (t : T) : 1 + szR t.pairs ≤ t.size := by
  cases t with
  | mk k b n s l m =>
    rw [T.size_mk]
    by_cases h : k = 5
    · rw [show (T.mk k b n s l m).pairs = m from if_pos h]
      unfold szR
      omega
    · rw [show (T.mk k b n s l m).pairs = [] from if_neg h, szR_nil]
      omega

theorem over_sz (u : T) : ∀ t : T, (T.over t u).size + 1 ≤ t.size + u.size := by
  induction u using T.ind with
  | h k b n s l m hl hm =>
    intro t
    have hp := pairs_sz t
    by_cases h : k = 5
    · subst h
      have := overR_sz hm t.pairs
      rw [over_map, T.size_mk, T.size_mk]
      unfold szR at *
      simp only [List.map_nil, List.sum_nil]
      omega
    · rw [over_other _ b n s l m h]
      omega

end Go.Proofs.Ytfhonjjhladddaa

/-
  LayerEmpty, walked.
-/
set_option linter.unusedVariables false
set_option linter.unusedSimpArgs false
namespace Go.Proofs.Ytfhonjjhladddaa
open Go.RowKit Go.Sort

theorem over_leaf {t u : T} (h : t.kind ≠ 5) : T.over u t = t := by
  cases t with
  | mk k b n s l m => exact over_other u b n s l m h
theorem pairs_leaf {t : T} (h : t.kind ≠ 5) : t.pairs = [] := by
  cases t with
  | mk k b n s l m => exact if_neg h
theorem plainT_of {t : T} (h : T.over T.nil t = t) : plainT t = true := by
  unfold plainT
  rw [h, (T.ord t).refl]
  rfl
theorem pl_nil : Pl ([] : Prs) := fun p hp => absurd hp (by simp)
theorem over_any_plain {t : T} (u : T) (h : t.kind ≠ 5) : plainT (T.over t u) = true :=
  plainT_of (over_plain u t (by rw [pairs_leaf h]; exact pl_nil))
theorem over_leaf_map {t : T} (u : T) (h : t.kind ≠ 5) : T.over t u = [u].foldl T.over T.none5 := over_pairs u (by rw [pairs_leaf h]; rfl)

/-- One value in a new block. -/
theorem one_value {w1 : World} {R1 : Nat → Prop} {t : T} {k : Int} {b : Bool} {n : Int} {s : ByteArray} {la : Option Addr} {ll lc : Nat} {ma : Option Addr} {ml mc : Nat}
    (h1 : Lies w1 R1 t #[.int .i64 k, .bool b, .int .i64 n, .string s, .slice la ll lc, .slice ma ml mc]) :
    SliceV (w1.alloc (.cells #[.int .i64 k, .bool b, .int .i64 n, .string s, .slice la ll lc, .slice ma ml mc] 25)) (fun _ => True) [t] (some ⟨w1.heap.size, 0, none⟩) 1
      (fun i => #[.int .i64 k, .bool b, .int .i64 n, .string s, .slice la ll lc, .slice ma ml mc]) := by
  have hb := Below.alloc (Below.refl w1.heap.size w1) (Nat.le_refl _) (.cells #[.int .i64 k, .bool b, .int .i64 n, .string s, .slice la ll lc, .slice ma ml mc] 25)
  refine ⟨⟨Nat.le_refl 1, (by decide : 1 * 88 ≤ 140737488355328), by simp, fun _ => ⟨_, _, rfl, trivial⟩, by omega⟩, fun i hi bl ol e => ?_, fun i hi => ?_⟩
  · simp only [Option.some.injEq, Addr.mk.injEq, and_true] at e
    obtain ⟨rfl, rfl⟩ := e
    obtain rfl : i = 0 := by simpa using hi
    intro j hj
    have hj6 : j < 6 := hj
    rw [Nat.zero_add, World.cell?_alloc_new]
    rcases (by omega : j = 0 ∨ j = 1 ∨ j = 2 ∨ j = 3 ∨ j = 4 ∨ j = 5) with rfl | rfl | rfl | rfl | rfl | rfl <;> rfl
  · obtain rfl : i = 0 := by simpa using hi
    exact (h1.later hb).weaken fun _ _ => trivial

end Go.Proofs.Ytfhonjjhladddaa

/-
  What values laid over each other are, as trees.
-/
set_option linter.unusedVariables false
namespace Go.Proofs.Ytfhonjjhladddaa
open Go.RowKit Go.Sort

def stripped (t : T) : Prop := T.over T.nil t = t
theorem stripped_over {t : T} (u : T) (h : stripped t) : stripped (T.over t u) := over_plain u t (Pl.of_plain h)
theorem none5_stripped : stripped T.none5 := by
  unfold stripped T.none5
  rw [over_nil_map, overR_nil]
theorem foldl_stripped : ∀ (ts : List T) (t : T), stripped t → stripped (ts.foldl T.over t)
  | [], _, h => h
  | x :: r, t, h => foldl_stripped r _ (stripped_over x h)
theorem all_stripped (ts : List T) : stripped (ts.foldl T.over T.none5) := foldl_stripped ts _ none5_stripped
theorem all_plain (ts : List T) : plainT (ts.foldl T.over T.none5) = true := plainT_of (all_stripped ts)
theorem all_again (ts : List T) : [ts.foldl T.over T.none5].foldl T.over T.none5 = ts.foldl T.over T.none5 :=
  (over_pairs (t := T.none5) (t' := T.nil) _ rfl).trans (all_stripped ts)
theorem all_joined (t u v : T) : T.over ([t, u].foldl T.over T.none5) v = [t, u, v].foldl T.over T.none5 := rfl
theorem foldl_sz : ∀ (ts : List T) (t : T), (ts.foldl T.over t).size ≤ t.size + (ts.map T.size).sum
  | [], t => by simp
  | x :: r, t => by
    have h1 := foldl_sz r (T.over t x)
    have h2 := over_sz x t
    simp only [List.foldl_cons, List.map_cons, List.sum_cons]
    omega
theorem none5_size : T.none5.size = 1 := by unfold T.none5; rw [T.size_mk]; simp
theorem layT_sz (ts : List T) (j : Nat) : (layT ts j).size ≤ 1 + (ts.map T.size).sum := by
  unfold layT
  have h1 := foldl_sz (ts.take j) T.none5
  have h2 : ((ts.take j).map T.size).sum ≤ (ts.map T.size).sum := by
    conv => rhs; rw [← List.take_append_drop j ts]
    rw [List.map_append, List.sum_append]
    omega
  rw [none5_size] at h1
  omega

end Go.Proofs.Ytfhonjjhladddaa

/-
  LayerJoins, walked.
-/
set_option linter.unusedVariables false
set_option linter.unusedSimpArgs false
namespace Go.Proofs.Ytfhonjjhladddaa
open Go.RowKit Go.Sort

theorem field_five (k : Int) (b : Bool) (n : Int) (s : ByteArray) (la : Option Addr) (ll lc : Nat) (ma : Option Addr) (ml mc : Nat) (W : World) :
    (Instr.field 25 (.agg #[.int .i64 k, .bool b, .int .i64 n, .string s, .slice la ll lc, .slice ma ml mc]) 5).run Try.prog W = .ok (.slice ma ml mc) W := by kernel_rfl
/-- One value alone, over nothing. -/
theorem all_one {w1 : World} {R1 : Nat → Prop} {t : T} {k : Int} {b : Bool} {n : Int} {s : ByteArray} {la : Option Addr} {ll lc : Nat} {ma : Option Addr} {ml mc : Nat}
    (h1 : Lies w1 R1 t #[.int .i64 k, .bool b, .int .i64 n, .string s, .slice la ll lc, .slice ma ml mc]) (hz : t.size ≤ 1000000) (W : World) (hW : Below (w1.alloc (.cells #[.int .i64 k, .bool b, .int .i64 n, .string s, .slice la ll lc, .slice ma ml mc] 25)).heap.size (w1.alloc (.cells #[.int .i64 k, .bool b, .int .i64 n, .string s, .slice la ll lc, .slice ma ml mc] 25)) W) :
    Calls Try.prog 20 #[.slice (some ⟨w1.heap.size, 0, none⟩) 1 1] W (OverIn W ([t].foldl T.over T.none5)) :=
  all_any (one_value h1) W hW (fun j hj => by
    obtain rfl : j = 0 := by simp at hj; omega
    show T.none5.size ≤ 1000000
    rw [none5_size]; omega) (fun i hi => by
    obtain rfl : i = 0 := by simp at hi; omega
    exact hz)
theorem all_none (W : World) : Calls Try.prog 20 #[.slice none 0 0] W (OverIn W T.none5) :=
  all_any (ts := []) (cl := fun _ => #[]) (empty_sliceV W (fun _ => True)) W (Below.refl _ _) (fun j hj => absurd hj (by simp)) (fun i hi => absurd hi (by simp))

/-- Behind two new blocks: what the second one holds. -/
theorem alloc_snd {v w : World} {cs zs : Array Value} {ty tz : TypeId} (h : Below ((v.alloc (.cells cs ty)).alloc (.cells zs tz)).heap.size ((v.alloc (.cells cs ty)).alloc (.cells zs tz)) w) :
    (∀ j, w.cell? ⟨v.heap.size + 1, j, none⟩ = zs[j]?) ∧ (∀ j, w.frozen? ⟨v.heap.size + 1, j, none⟩ = false) ∧ Below v.heap.size v w ∧ v.heap.size + 1 < w.heap.size := by
  have e : (v.alloc (.cells cs ty)).heap.size = v.heap.size + 1 := by simp
  have y := one_boxL (w := v.alloc (.cells cs ty)) h
  rw [e] at y
  refine ⟨y.1, y.2, bstep ((Below.refl _ _).alloc (Nat.le_refl _) (.cells cs ty)) (bstep ((Below.refl _ _).alloc (Nat.le_refl _) (.cells zs tz)) h (by simp)) (by simp), ?_⟩
  have := h.size
  simp at this
  omega
theorem alloc_fst {v w : World} {cs zs : Array Value} {ty tz : TypeId} (h : Below ((v.alloc (.cells zs tz)).alloc (.cells cs ty)).heap.size ((v.alloc (.cells zs tz)).alloc (.cells cs ty)) w) :
    (∀ j, w.cell? ⟨v.heap.size, j, none⟩ = zs[j]?) ∧ (∀ j, w.frozen? ⟨v.heap.size, j, none⟩ = false) ∧ Below v.heap.size v w ∧ v.heap.size < w.heap.size := by
  have h2 := bstep ((Below.refl _ _).alloc (Nat.le_refl _) (.cells cs ty)) h (by simp)
  have y := one_boxL (w := v) h2
  refine ⟨y.1, y.2, bstep ((Below.refl _ _).alloc (Nat.le_refl _) (.cells zs tz)) h2 (by simp), ?_⟩
  have := h.size
  simp at this
  omega

end Go.Proofs.Ytfhonjjhladddaa
