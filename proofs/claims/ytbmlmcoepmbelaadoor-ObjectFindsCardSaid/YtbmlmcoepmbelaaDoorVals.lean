/-
  Values of package api as trees, and how they lie in memory.
-/
import Derived.Test.YtbmlmcoepmbelaaDoorRows
import Derived.WalkKit
import Derived.WalkSpells
import Derived.WalkLawsBesides
import Derived.Lib.Hide
import Derived.Deep.QuietTactic
import Derived.BigQuiet
import Derived.Handy
import Derived.Deep.RegionWith
import Derived.Deep.RegionHeld3
set_option linter.unusedVariables false
set_option linter.unusedSimpArgs false
namespace Go.Proofs.YtbmlmcoepmbelaaDoor
open Go.RowKit

/-- A value: its kind, its truth, its number, its text, its list, its pairs. -/
inductive T where
  | mk (k : Int) (b : Bool) (n : Int) (s : ByteArray) (l : List T) (m : List (ByteArray × T))

namespace T
def kind : T → Int | .mk k _ _ _ _ _ => k
def truth : T → Bool | .mk _ b _ _ _ _ => b
def num : T → Int | .mk _ _ n _ _ _ => n
def str : T → ByteArray | .mk _ _ _ s _ _ => s
def list : T → List T | .mk _ _ _ _ l _ => l
def map : T → List (ByteArray × T) | .mk _ _ _ _ _ m => m
end T

theorem T.lt_l {k : Int} {b : Bool} {n : Int} {s : ByteArray} {l : List T} {m : List (ByteArray × T)} {x : T} (h : x ∈ l) : SizeOf.sizeOf x < SizeOf.sizeOf (T.mk k b n s l m) := by
  have := List.sizeOf_lt_of_mem h
  simp only [T.mk.sizeOf_spec]; omega
theorem T.lt_m {k : Int} {b : Bool} {n : Int} {s : ByteArray} {l : List T} {m : List (ByteArray × T)} {p : ByteArray × T} (h : p ∈ m) : SizeOf.sizeOf p.2 < SizeOf.sizeOf (T.mk k b n s l m) := by
  have := List.sizeOf_lt_of_mem h
  have h2 : SizeOf.sizeOf p = 1 + SizeOf.sizeOf p.1 + SizeOf.sizeOf p.2 := by obtain ⟨a, b⟩ := p; simp
  simp only [T.mk.sizeOf_spec]; omega

/-- What holds of a value if it holds of all in it holds of all. -/
theorem T.ind {p : T → Prop} (h : ∀ k b n s l m, (∀ x ∈ l, p x) → (∀ q ∈ m, p q.2) → p (.mk k b n s l m)) : ∀ t, p t
  | .mk k b n s l m => h k b n s l m (fun x hx => T.ind h x) (fun q hq => T.ind h q.2)
termination_by t => t
decreasing_by
  · exact T.lt_l hx
  · exact T.lt_m hq

/-- Row of cells: cell j of the row that begins at off in block b. -/
def Row (w : World) (b off : Nat) (cs : Array Value) : Prop := ∀ j (h : j < cs.size), w.cell? ⟨b, off + j, none⟩ = some cs[j]

/-- A slice header that may be: its address, its length, its capacity. -/
structure Hdr (R : Nat → Prop) (bytes : Nat) (a : Option Addr) (len cap : Nat) : Prop where
  le : len ≤ cap
  big : len * bytes ≤ 140737488355328
  none : a = none → cap = 0
  some : 0 < len → ∃ b off, a = some ⟨b, off, Option.none⟩ ∧ R b
  max : cap ≤ 9223372036854775807

/-- THE VALUE t LIES IN w, its six cells being cs; all blocks that it goes through are such as R says. -/
inductive Lies (w : World) (R : Nat → Prop) : T → Array Value → Prop where
  | mk (k : Int) (b : Bool) (n : Int) (s : ByteArray) (l : List T) (m : List (ByteArray × T)) (la : Option Addr) (lc : Nat) (ma : Option Addr) (mc : Nat) (cl cm : Nat → Array Value)
      (hk : (Lit.int .i64 k).wf = true) (hn : (Lit.int .i64 n).wf = true) (hs : s.size ≤ 140737488355328) (hl : Hdr R 88 la l.length lc) (hm : Hdr R 104 ma m.length mc)
      (rl : ∀ i, i < l.length → ∀ bl ol, la = some ⟨bl, ol, none⟩ → Row w bl (ol + i * 6) (cl i))
      (rm : ∀ i (h : i < m.length), ∀ bm om, ma = some ⟨bm, om, none⟩ → Row w bm (om + i * 7) (#[Value.string (m[i]).1] ++ cm i))
      (ks : ∀ i (h : i < m.length), (m[i]).1.size ≤ 140737488355328)
      (il : ∀ i (h : i < l.length), Lies w R l[i] (cl i))
      (im : ∀ i (h : i < m.length), Lies w R (m[i]).2 (cm i)) :
      Lies w R (.mk k b n s l m) #[.int .i64 k, .bool b, .int .i64 n, .string s, .slice la l.length lc, .slice ma m.length mc]

/-- Six cells, written out. -/
theorem Lies.six {w : World} {R : Nat → Prop} {t : T} {cs : Array Value} (h : Lies w R t cs) :
    ∃ (k : Int) (b : Bool) (n : Int) (s : ByteArray) (la : Option Addr) (ll lc : Nat) (ma : Option Addr) (ml mc : Nat), cs = #[.int .i64 k, .bool b, .int .i64 n, .string s, .slice la ll lc, .slice ma ml mc] := by
  cases h; exact ⟨_, _, _, _, _, _, _, _, _, _, rfl⟩

theorem Row.six {w : World} {b off : Nat} {c0 c1 c2 c3 c4 c5 : Value} (h : Row w b off #[c0, c1, c2, c3, c4, c5]) :
    w.cell? ⟨b, off, none⟩ = some c0 ∧ w.cell? ⟨b, off + 1, none⟩ = some c1 ∧ w.cell? ⟨b, off + 2, none⟩ = some c2 ∧ w.cell? ⟨b, off + 3, none⟩ = some c3 ∧ w.cell? ⟨b, off + 4, none⟩ = some c4 ∧ w.cell? ⟨b, off + 5, none⟩ = some c5 :=
  ⟨h 0 (by simp), h 1 (by simp), h 2 (by simp), h 3 (by simp), h 4 (by simp), h 5 (by simp)⟩

theorem Row.seven {w : World} {b off : Nat} {c0 c1 c2 c3 c4 c5 c6 : Value} (h : Row w b off #[c0, c1, c2, c3, c4, c5, c6]) :
    w.cell? ⟨b, off, none⟩ = some c0 ∧ w.cell? ⟨b, off + 1, none⟩ = some c1 ∧ w.cell? ⟨b, off + 2, none⟩ = some c2 ∧ w.cell? ⟨b, off + 3, none⟩ = some c3 ∧ w.cell? ⟨b, off + 4, none⟩ = some c4 ∧ w.cell? ⟨b, off + 5, none⟩ = some c5 ∧ w.cell? ⟨b, off + 6, none⟩ = some c6 :=
  ⟨h 0 (by simp), h 1 (by simp), h 2 (by simp), h 3 (by simp), h 4 (by simp), h 5 (by simp), h 6 (by simp)⟩

theorem Row.below {w w' : World} {B b off : Nat} {cs : Array Value} (h : Row w b off cs) (hb : Below B w w') (hB : b < B) : Row w' b off cs :=
  fun j hj => (hb.cell (p := ⟨b, off + j, none⟩) hB).trans (h j hj)

theorem Row.lt {w : World} {b off : Nat} {cs : Array Value} (h : Row w b off cs) (h0 : 0 < cs.size) : b < w.heap.size := by
  have := h 0 h0; exact World.block_lt_of_cell? _ _ this

theorem bstep {A B : Nat} {a b c : World} (h : Below A a b) (k : Below B b c) (hB : A ≤ B) : Below A a c := h.trans (k.mono hB)

/-- A cell of a block that the call made itself, in a later world. -/
theorem box_cell {w wr : World} {cs : Array Value} {t : TypeId} {B o : Nat} {v : Value} (h : Below B (w.alloc (.cells cs t)) wr) (hB : w.heap.size < B) (hv : cs[o]? = some v) : wr.cell? ⟨w.heap.size, o, none⟩ = some v := by
  rw [h.cell (p := ⟨w.heap.size, o, none⟩) hB, World.cell?_alloc_new]; exact hv

theorem bunbox {w wr : World} {o : Obj} {A B : Nat} (h : Below B (w.alloc o) wr) (hA : A ≤ w.heap.size) (hB : A ≤ B) : Below A w wr :=
  ((Below.refl A w).alloc hA o).trans (h.mono hB)

/-- .. in one step, behind a new block of one's own. -/
theorem bbox {A : Nat} {a w : World} (h : Below A a w) (o : Obj) (hA : A ≤ w.heap.size) : Below A a (w.alloc o) := h.alloc hA o

theorem bdrewN {A : Nat} {a w : World} (h : Below A a w) (n : Nat) : Below A a (w.drewN n) := ⟨h.os, h.tape, h.output, h.size, h.block⟩

theorem ret_int {k : IntKind} {a b : Int} (h : a = b) : Ending.returned (.int k a) = .returned (.int k b) := by rw [h]
theorem val_int {k : IntKind} {a b : Int} (h : a = b) : Value.int k a = Value.int k b := by rw [h]
theorem ret_bool {a b : Bool} (h : a = b) : Ending.returned (.bool a) = .returned (.bool b) := by rw [h]

/-- The list's element j in a later world: its address and its six cells. -/
theorem openL {w0 w : World} {R : Nat → Prop} {la : Option Addr} {len lc bytes : Nat} {cl : Nat → Array Value} (hw : Below w0.heap.size w0 w) (hl : Hdr R bytes la len lc)
    (rl : ∀ i, i < len → ∀ bl ol, la = some ⟨bl, ol, none⟩ → Row w0 bl (ol + i * 6) (cl i)) {j : Nat} (hj : j < len) {t : T} (ht : Lies w0 R t (cl j)) :
    ∃ (bl ol : Nat) (k : Int) (b : Bool) (n : Int) (s : ByteArray) (la' : Option Addr) (ll lc' : Nat) (ma : Option Addr) (ml mc : Nat), la = some ⟨bl, ol, none⟩ ∧ cl j = #[.int .i64 k, .bool b, .int .i64 n, .string s, .slice la' ll lc', .slice ma ml mc] ∧
      w.cell? ⟨bl, ol + j * 6, none⟩ = some (.int .i64 k) ∧ w.cell? ⟨bl, ol + j * 6 + 1, none⟩ = some (.bool b) ∧ w.cell? ⟨bl, ol + j * 6 + 2, none⟩ = some (.int .i64 n) ∧ w.cell? ⟨bl, ol + j * 6 + 3, none⟩ = some (.string s) ∧
      w.cell? ⟨bl, ol + j * 6 + 4, none⟩ = some (.slice la' ll lc') ∧ w.cell? ⟨bl, ol + j * 6 + 5, none⟩ = some (.slice ma ml mc) := by
  obtain ⟨bl, ol, hla, _⟩ := hl.some (by omega)
  obtain ⟨k, b, n, s, la', ll, lc', ma, ml, mc, hc⟩ := ht.six
  have hr := rl j hj bl ol hla
  rw [hc] at hr
  obtain ⟨r0, r1, r2, r3, r4, r5⟩ := (hr.below hw (hr.lt (by simp))).six
  exact ⟨bl, ol, k, b, n, s, la', ll, lc', ma, ml, mc, hla, hc, r0, r1, r2, r3, r4, r5⟩

/-- The map's pair j in a later world: its address and its seven cells. -/
theorem openM {w0 w : World} {R : Nat → Prop} {m : List (ByteArray × T)} {ma : Option Addr} {mc bytes : Nat} {cm : Nat → Array Value} (hw : Below w0.heap.size w0 w) (hm : Hdr R bytes ma m.length mc)
    (rm : ∀ i (h : i < m.length), ∀ bm om, ma = some ⟨bm, om, none⟩ → Row w0 bm (om + i * 7) (#[Value.string (m[i]).1] ++ cm i)) {j : Nat} (hj : j < m.length) {t : T} (ht : Lies w0 R t (cm j)) :
    ∃ (bl ol : Nat) (k : Int) (b : Bool) (n : Int) (s : ByteArray) (la' : Option Addr) (ll lc' : Nat) (ma' : Option Addr) (ml mc' : Nat), ma = some ⟨bl, ol, none⟩ ∧ cm j = #[.int .i64 k, .bool b, .int .i64 n, .string s, .slice la' ll lc', .slice ma' ml mc'] ∧
      w.cell? ⟨bl, ol + j * 7, none⟩ = some (.string m[j].1) ∧ w.cell? ⟨bl, ol + j * 7 + 1, none⟩ = some (.int .i64 k) ∧ w.cell? ⟨bl, ol + j * 7 + 2, none⟩ = some (.bool b) ∧ w.cell? ⟨bl, ol + j * 7 + 3, none⟩ = some (.int .i64 n) ∧
      w.cell? ⟨bl, ol + j * 7 + 4, none⟩ = some (.string s) ∧ w.cell? ⟨bl, ol + j * 7 + 5, none⟩ = some (.slice la' ll lc') ∧ w.cell? ⟨bl, ol + j * 7 + 6, none⟩ = some (.slice ma' ml mc') := by
  obtain ⟨bl, ol, hla, _⟩ := hm.some (by omega)
  obtain ⟨k, b, n, s, la', ll, lc', ma', ml, mc', hc⟩ := ht.six
  have hr := rm j hj bl ol hla
  rw [hc] at hr
  obtain ⟨r0, r1, r2, r3, r4, r5, r6⟩ := Row.seven (hr.below hw (hr.lt (by simp)))
  exact ⟨bl, ol, k, b, n, s, la', ll, lc', ma', ml, mc', hla, hc, r0, r1, r2, r3, r4, r5, r6⟩

/-- The sum over the first j. -/
def psum {α : Type} (f : α → Nat) (l : List α) (j : Nat) : Nat := ((l.take j).map f).sum
theorem psum_zero {α : Type} (f : α → Nat) (l : List α) : psum f l 0 = 0 := by simp [psum]
theorem psum_succ {α : Type} (f : α → Nat) (l : List α) (i : Nat) (h : i < l.length) : psum f l (i + 1) = psum f l i + f l[i] := by
  unfold psum; rw [List.take_succ_eq_append_getElem h, List.map_append, List.sum_append]; simp
theorem psum_all {α : Type} (f : α → Nat) (l : List α) : psum f l l.length = (l.map f).sum := by simp [psum]
theorem psum_le {α : Type} (f : α → Nat) (l : List α) (i : Nat) : psum f l i ≤ (l.map f).sum := by
  unfold psum
  conv => rhs; rw [← List.take_append_drop i l]
  rw [List.map_append, List.sum_append]; omega

/-- The greatest of the first j. -/
def pmax {α : Type} (f : α → Nat) (l : List α) (j : Nat) : Nat := ((l.take j).map f).foldr max 0
theorem foldr_max (l : List Nat) (a : Nat) : (l ++ [a]).foldr max 0 = max (l.foldr max 0) a := by
  induction l with
  | nil => simp
  | cons x r ih => simp only [List.cons_append, List.foldr_cons, ih]; omega
theorem pmax_zero {α : Type} (f : α → Nat) (l : List α) : pmax f l 0 = 0 := by simp [pmax]
theorem pmax_succ {α : Type} (f : α → Nat) (l : List α) (i : Nat) (h : i < l.length) : pmax f l (i + 1) = max (pmax f l i) (f l[i]) := by
  unfold pmax; rw [List.take_succ_eq_append_getElem h, List.map_append, List.map_cons, List.map_nil, foldr_max]
theorem pmax_all {α : Type} (f : α → Nat) (l : List α) : pmax f l l.length = (l.map f).foldr max 0 := by simp [pmax]
theorem foldr_max_le {l : List Nat} {B : Nat} (h : ∀ x ∈ l, x ≤ B) : l.foldr max 0 ≤ B := by
  induction l with
  | nil => simp
  | cons x r ih =>
    have h1 := h x (by simp)
    have h2 := ih (fun y hy => h y (by simp [hy]))
    simp only [List.foldr_cons]; omega
theorem le_foldr_max {l : List Nat} {x : Nat} (h : x ∈ l) : x ≤ l.foldr max 0 := by
  induction l with
  | nil => cases h
  | cons y r ih =>
    simp only [List.foldr_cons]
    rcases List.mem_cons.1 h with rfl | h
    · omega
    · have := ih h; omega
theorem pmax_le {α : Type} (f : α → Nat) (l : List α) (i : Nat) : pmax f l i ≤ (l.map f).foldr max 0 :=
  foldr_max_le fun x hx => le_foldr_max (by obtain ⟨a, ha, rfl⟩ := List.mem_map.1 hx; exact List.mem_map.2 ⟨a, List.mem_of_mem_take ha, rfl⟩)
theorem le_sum {l : List Nat} {x : Nat} (h : x ∈ l) : x ≤ l.sum := by
  induction l with
  | nil => cases h
  | cons y r ih =>
    simp only [List.sum_cons]
    rcases List.mem_cons.1 h with rfl | h
    · omega
    · have := ih h; omega

/-- How many values, itself counted. -/
def T.size : T → Nat
  | .mk _ _ _ _ l m => 1 + (l.map T.size).sum + (m.map fun p => p.2.size).sum
termination_by t => t
decreasing_by
  · exact T.lt_l ‹_›
  · exact T.lt_m ‹_›
theorem T.size_mk (k : Int) (b : Bool) (n : Int) (s : ByteArray) (l : List T) (m : List (ByteArray × T)) : (T.mk k b n s l m).size = 1 + (l.map T.size).sum + (m.map fun p => p.2.size).sum := by
  rw [T.size]

/-- How many stand in each other at most. -/
def T.depth : T → Nat
  | .mk _ _ _ _ l m => max ((l.map T.depth).foldr max 0) ((m.map fun p => p.2.depth).foldr max 0) + 1
termination_by t => t
decreasing_by
  · exact T.lt_l ‹_›
  · exact T.lt_m ‹_›
theorem T.depth_mk (k : Int) (b : Bool) (n : Int) (s : ByteArray) (l : List T) (m : List (ByteArray × T)) : (T.mk k b n s l m).depth = max ((l.map T.depth).foldr max 0) ((m.map fun p => p.2.depth).foldr max 0) + 1 := by
  rw [T.depth]

theorem T.depth_le_size (t : T) : t.depth ≤ t.size := by
  induction t using T.ind with
  | h k b n s l m hl hm =>
    rw [T.size_mk, T.depth_mk]
    have a1 : (l.map T.depth).foldr max 0 ≤ (l.map T.size).sum := foldr_max_le fun x hx => by
      obtain ⟨y, hy, rfl⟩ := List.mem_map.1 hx
      exact Nat.le_trans (hl y hy) (le_sum (List.mem_map.2 ⟨y, hy, rfl⟩))
    have a2 : (m.map fun p => p.2.depth).foldr max 0 ≤ (m.map fun p => p.2.size).sum := foldr_max_le fun x hx => by
      obtain ⟨y, hy, rfl⟩ := List.mem_map.1 hx
      exact Nat.le_trans (hm y hy) (le_sum (List.mem_map.2 ⟨y, hy, rfl⟩))
    omega

/-- Values, key bytes and text bytes together. -/
def T.bulk : T → Nat
  | .mk _ _ _ s l m => 1 + s.size + (l.map T.bulk).sum + (m.map fun p => p.2.bulk + p.1.size).sum
termination_by t => t
decreasing_by
  · exact T.lt_l ‹_›
  · exact T.lt_m ‹_›
theorem T.bulk_mk (k : Int) (b : Bool) (n : Int) (s : ByteArray) (l : List T) (m : List (ByteArray × T)) : (T.mk k b n s l m).bulk = 1 + s.size + (l.map T.bulk).sum + (m.map fun p => p.2.bulk + p.1.size).sum := by
  rw [T.bulk]

theorem sum_le_sum {α : Type} {f g : α → Nat} {l : List α} (h : ∀ x ∈ l, f x ≤ g x) : (l.map f).sum ≤ (l.map g).sum := by
  induction l with
  | nil => simp
  | cons x r ih =>
    have h1 := h x (by simp)
    have h2 := ih (fun y hy => h y (by simp [hy]))
    simp only [List.map_cons, List.sum_cons]; omega

theorem T.size_le_bulk (t : T) : t.size ≤ t.bulk := by
  induction t using T.ind with
  | h k b n s l m hl hm =>
    rw [T.size_mk, T.bulk_mk]
    have a1 := sum_le_sum hl
    have a2 : (m.map fun p => p.2.size).sum ≤ (m.map fun p => p.2.bulk + p.1.size).sum := sum_le_sum fun q hq => by have := hm q hq; omega
    omega

/-- A slice of values lies in w. -/
structure SliceV (w : World) (R : Nat → Prop) (ts : List T) (a : Option Addr) (cap : Nat) (cl : Nat → Array Value) : Prop where
  hdr : Hdr R 88 a ts.length cap
  rows : ∀ i, i < ts.length → ∀ bl ol, a = some ⟨bl, ol, none⟩ → Row w bl (ol + i * 6) (cl i)
  each : ∀ i (h : i < ts.length), Lies w R ts[i] (cl i)

/-- A slice of pairs lies in w. -/
structure SliceP (w : World) (R : Nat → Prop) (ps : List (ByteArray × T)) (a : Option Addr) (cap : Nat) (cm : Nat → Array Value) : Prop where
  hdr : Hdr R 104 a ps.length cap
  rows : ∀ i (h : i < ps.length), ∀ bm om, a = some ⟨bm, om, none⟩ → Row w bm (om + i * 7) (#[Value.string (ps[i]).1] ++ cm i)
  keys : ∀ i (h : i < ps.length), (ps[i]).1.size ≤ 140737488355328
  each : ∀ i (h : i < ps.length), Lies w R (ps[i]).2 (cm i)

theorem toList_inj {a b : ByteArray} (h : a.toList = b.toList) : a = b := by
  rw [ByteArray.toList_eq, ByteArray.toList_eq] at h
  exact WideShapes.bytes_inj h
theorem str_ne {a b : ByteArray} (h : a ≠ b) : (a.toList == b.toList) = false := by
  rw [beq_eq_false_iff_ne]
  exact fun e => h (toList_inj e)

/-! ### A row of cells that is written -/

def setRow (W : World) (g : Nat) : Nat → List Value → World
  | _, [] => W
  | o, v :: r => setRow (W.setCell ⟨g, o, none⟩ v) g (o + 1) r
theorem setRow_heap (g : Nat) : ∀ (vs : List Value) (W : World) (o : Nat) (k : Nat), k ≠ g → (setRow W g o vs).heap[k]? = W.heap[k]?
  | [], _, _, _, _ => rfl
  | v :: r, W, o, k, h => by rw [setRow, setRow_heap g r _ _ k h, Below.heap_setCell _ _ _ _ h]
theorem setRow_size (g : Nat) : ∀ (vs : List Value) (W : World) (o : Nat), (setRow W g o vs).heap.size = W.heap.size
  | [], _, _ => rfl
  | v :: r, W, o => by rw [setRow, setRow_size g r, World.size_setCell]
theorem setRow_below {A : Nat} {a : World} (g : Nat) (hg : A ≤ g) : ∀ (vs : List Value) (W : World) (o : Nat), Below A a W → Below A a (setRow W g o vs)
  | [], _, _, h => h
  | v :: r, W, o, h => setRow_below g hg r _ _ (h.setCell hg v)
theorem setRow_frozen (g : Nat) : ∀ (vs : List Value) (W : World) (o : Nat) (a : Addr), (setRow W g o vs).frozen? a = W.frozen? a
  | [], _, _, _ => rfl
  | v :: r, W, o, a => by rw [setRow, setRow_frozen g r, World.frozen?_setCell]
theorem setRow_low (g : Nat) : ∀ (vs : List Value) (W : World) (o i : Nat), i < o → (setRow W g o vs).cell? ⟨g, i, none⟩ = W.cell? ⟨g, i, none⟩
  | [], _, _, _, _ => rfl
  | v :: r, W, o, i, h => by
    rw [setRow, setRow_low g r _ (o + 1) i (by omega), World.cell?_setCell_other _ _ _ _ (by intro e; simp at e; try omega)]
theorem setRow_cell (g : Nat) : ∀ (vs : List Value) (W : World) (o : Nat), (∀ i, i < vs.length → ∃ u, W.cell? ⟨g, o + i, none⟩ = some u) → ∀ i (h : i < vs.length), (setRow W g o vs).cell? ⟨g, o + i, none⟩ = some vs[i]
  | v :: r, W, o, hW, 0, _ => by
    obtain ⟨u, hu⟩ := hW 0 (by simp)
    rw [setRow, setRow_low g r _ (o + 1) (o + 0) (by omega)]
    exact World.cell?_setCell_same _ _ _ hu
  | v :: r, W, o, hW, i + 1, h => by
    have := setRow_cell g r (W.setCell ⟨g, o, none⟩ v) (o + 1) (fun j hj => by
      obtain ⟨u, hu⟩ := hW (j + 1) (by simp; omega)
      exact ⟨u, by rw [World.cell?_setCell_other _ _ _ _ (by intro e; simp at e; try omega), show o + 1 + j = o + (j + 1) by omega]; exact hu⟩) i (by simpa using h)
    rw [setRow, show o + (i + 1) = o + 1 + i by omega, this]
    rfl

/-- A result that lies in a variable, cell by cell. -/
theorem run_loadVar_cells {P : Program} (w : World) (g : Nat) (ty : TypeId) (cs : Array Value) (d : TypeDesc) (hd : (match d with | .struct _ | .array _ _ => true | _ => false) = true) (hu : P.underlying ty = some d) (hc : ∀ i (h : i < cs.size), w.cell? ⟨g, i, none⟩ = some cs[i]) (hi : (P.info? ty).map (·.size) = some cs.size) :
    (loadVar ty ⟨g, 0, none⟩).run P w = .ok (.agg cs) w := by
  have hl : (loadCells ⟨g, 0, none⟩ cs.toList.length).run P w = .ok cs.toList.toArray w :=
    run_loadCells_list (P := P) w ⟨g, 0, none⟩ cs.toList (fun j v hv => by
      rw [Addr.add_lit, Nat.zero_add]
      obtain ⟨hj, rfl⟩ := List.getElem?_eq_some_iff.1 hv
      exact hc j (by simpa using hj))
  cases hq : P.info? ty with
  | none => simp [hq] at hi
  | some i =>
    have hs : i.size = cs.size := by simpa [hq] using hi
    have hagg : (isAgg ty).run P w = .ok true w := by
      unfold isAgg
      rw [Sem.run_bind, run_underlying hu w]
      cases d <;> simp_all
    simp only [Array.length_toList, Array.toArray_toList] at hl
    simp [loadVar, Sem.run_bind, hagg, sizeOf, typeInfo, hq, hs, hl]
theorem results_cells {P : Program} {fn : Func} {p : Tmp} {ty : TypeId} (h : fn.results = #[.cell p ty]) (tmps : Array Value) (w : World) (g : Nat) (cs : Array Value) (d : TypeDesc) (hd : (match d with | .struct _ | .array _ _ => true | _ => false) = true) (hu : P.underlying ty = some d)
    (hp : tmps.getD p undef = .pointer (some ⟨g, 0, none⟩)) (hc : ∀ i (h : i < cs.size), w.cell? ⟨g, i, none⟩ = some cs[i]) (hi : (P.info? ty).map (·.size) = some cs.size) :
    (results fn tmps).run P w = .ok (.agg cs) w := by
  have hp' : tmps[p]?.getD undef = .pointer (some ⟨g, 0, none⟩) := by simpa using hp
  simp [results, h, hp', asAddr, run_loadVar_cells w g ty cs d hd hu hc hi]

theorem ret_cells {P : Program} {fn : Func} {R : Ending → World → Prop} {a : Act} {w : World} {p : Tmp} {ty : TypeId} {d : TypeDesc} (W : World) (g : Nat) (vs : List Value) (hw : w = setRow W g 0 vs) (h : fn.results = #[.cell p ty]) (hdef : a.defers = []) (hp : a.tmps.getD p undef = .pointer (some ⟨g, 0, none⟩))
    (hd : (match d with | .struct _ | .array _ _ => true | _ => false) = true) (hu : P.underlying ty = some d) (hi : (P.info? ty).map (·.size) = some vs.length) (hW : ∀ i, i < vs.length → ∃ u, W.cell? ⟨g, i, none⟩ = some u)
    (hR : R (.returned (.agg vs.toArray)) (setRow W g 0 vs)) : bodyPost P fn R .ret a w := by
  subst hw
  refine bodyPost_ret (results_cells h _ _ g vs.toArray d hd hu hp (fun i hi' => ?_) (by simpa using hi)) hdef hR
  have := setRow_cell g vs W 0 (fun j hj => by simpa using hW j hj) i (by simpa using hi')
  simpa using this

theorem ret_cells_tmp {P : Program} {fn : Func} {R : Ending → World → Prop} {a : Act} {w : World} {p q : Tmp} {ty : TypeId} {d : TypeDesc} (W : World) (g : Nat) (vs : List Value) (hw : w = setRow W g 0 vs) (h : fn.results = #[.cell p ty, .tmp q]) (hdef : a.defers = []) (hp : a.tmps.getD p undef = .pointer (some ⟨g, 0, none⟩))
    (hd : (match d with | .struct _ | .array _ _ => true | _ => false) = true) (hu : P.underlying ty = some d) (hi : (P.info? ty).map (·.size) = some vs.length) (hW : ∀ i, i < vs.length → ∃ u, W.cell? ⟨g, i, none⟩ = some u)
    (hR : R (.returned (.tuple #[.agg vs.toArray, a.tmps.getD q undef])) (setRow W g 0 vs)) : bodyPost P fn R .ret a w := by
  subst hw
  have hc : ∀ i (hi : i < vs.toArray.size), (setRow W g 0 vs).cell? ⟨g, i, none⟩ = some vs.toArray[i] := fun i hi' => by
    have := setRow_cell g vs W 0 (fun j hj => by simpa using hW j hj) i (by simpa using hi')
    simpa using this
  have hp' : a.tmps[p]?.getD undef = .pointer (some ⟨g, 0, none⟩) := by simpa using hp
  refine bodyPost_ret (v := .tuple #[.agg vs.toArray, a.tmps.getD q undef]) ?_ hdef hR
  simp [results, h, hp', asAddr, run_loadVar_cells _ g ty vs.toArray d hd hu hc (by simpa using hi)]

theorem Tryd.structV : ∃ d, Tryd.prog.underlying 25 = some d ∧ (match d with | .struct _ | .array _ _ => true | _ => false) = true := ⟨_, Tryd.underlying25, rfl⟩
theorem Tryd.structP : ∃ d, Tryd.prog.underlying 54 = some d ∧ (match d with | .struct _ | .array _ _ => true | _ => false) = true := ⟨_, Tryd.underlying54, rfl⟩
theorem Tryd.sizeV : (Tryd.prog.info? 25).map (·.size) = some 6 := by kernel_rfl
theorem Tryd.sizeP : (Tryd.prog.info? 54).map (·.size) = some 7 := by kernel_rfl

end Go.Proofs.YtbmlmcoepmbelaaDoor
