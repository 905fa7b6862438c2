/-
  What a map has under a key.
-/
import Derived.Test.YtbbpipjadniafaaDoorCloneP
set_option linter.unusedVariables false
set_option linter.unusedSimpArgs false
namespace Go.Proofs.YtbbpipjadniafaaDoor
open Go.RowKit

/-- The place of the first of that key; -1: there is none. -/
def keyIx (ps : List (ByteArray × T)) (key : ByteArray) : Int := match ps.findIdx? fun p => decide (p.1 = key) with | some i => (i : Int) | none => -1
theorem keyIx_none (ps : List (ByteArray × T)) (key : ByteArray) (h : ∀ i (hi : i < ps.length), ps[i].1 ≠ key) : keyIx ps key = -1 := by
  unfold keyIx
  rw [List.findIdx?_eq_none_iff.2 fun p hp => by obtain ⟨i, hi, rfl⟩ := List.getElem_of_mem hp; simpa using h i hi]
theorem keyIx_hit (ps : List (ByteArray × T)) (key : ByteArray) (j : Nat) (hj : j < ps.length) (h : ∀ i (hi : i < ps.length), i < j → ps[i].1 ≠ key) (he : ps[j].1 = key) : keyIx ps key = j := by
  unfold keyIx
  have : (ps.findIdx? fun p => decide (p.1 = key)) = some j := by
    rw [List.findIdx?_eq_some_iff_getElem]
    exact ⟨hj, by simp [he], fun i hi => by simpa using h i (by omega) hi⟩
  rw [this]

/-- Nothing. -/
def T.nil : T := .mk 0 false 0 ⟨#[]⟩ [] []
theorem nil_lies (w : World) (R : Nat → Prop) : Lies w R T.nil #[.int .i64 0, .bool false, .int .i64 0, .string ⟨#[]⟩, .slice none 0 0, .slice none 0 0] :=
  .mk 0 false 0 ⟨#[]⟩ [] [] none 0 none 0 (fun _ => #[]) (fun _ => #[]) (by decide) (by decide) (by decide) ⟨by simp, by simp, fun _ => rfl, fun h => absurd h (by simp), by simp⟩ ⟨by simp, by simp, fun _ => rfl, fun h => absurd h (by simp), by simp⟩
    (fun i h => absurd h (by simp)) (fun i h => absurd h (by simp)) (fun i h => absurd h (by simp)) (fun i h => absurd h (by simp)) (fun i h => absurd h (by simp))

/-- A map's pairs; of others none. -/
def T.pairs : T → List (ByteArray × T)
  | .mk k _ _ _ _ m => if k = 5 then m else []
/-- What a map has under a key. -/
def T.get (t : T) (key : ByteArray) : Option T := (t.pairs.find? fun p => decide (p.1 = key)).map (·.2)

def Got (w : World) (r : Option T) (e : Ending) (w' : World) : Prop := ∃ ds, e = .returned (.tuple #[.agg ds, .bool r.isSome]) ∧ Lies w' (fun b => w.heap.size ≤ b) (r.getD T.nil) ds ∧ Below w.heap.size w w'

def IsPairs (w : World) (t : T) (mc : Nat) (ma : Option Addr) (ml : Nat) (k : Int) (e : Ending) (w' : World) : Prop := e = .returned (if k = 5 then .slice ma ml mc else .slice none 0 0) ∧ Below w.heap.size w w'

theorem pairs_any (k : Int) (b : Bool) (n : Int) (s : ByteArray) (la : Option Addr) (ll lc : Nat) (ma : Option Addr) (ml mc : Nat) (w : World) :
    Calls Tryd.prog 65 #[.agg #[.int .i64 k, .bool b, .int .i64 n, .string s, .slice la ll lc, .slice ma ml mc]] w fun e w' => e = .returned (if k = 5 then .slice ma ml mc else .slice none 0 0) ∧ Below w.heap.size w w' := by
  have HB := Lib.hid ((Below.refl w.heap.size w).alloc (Nat.le_refl _) (.cells #[.int .i64 k, .bool b, .int .i64 n, .string s, .slice la ll lc, .slice ma ml mc] 36))
  by_cases h : k = 5
  · rw [if_pos h]
    subst h
    go_enter Tryd.func65, Tryd.ntmps65
    go_wp2_with fail
    go_ret
    exact ⟨rfl, HB.out⟩
  · rw [if_neg h]
    have hne : (k != 5) = true := by simp [h]
    clear h
    go_enter Tryd.func65, Tryd.ntmps65
    go_wp2_with fail
    go_ret
    exact ⟨rfl, HB.out⟩

theorem three_boxes {w w1 : World} {c1 c2 c3 : Array Value} {t1 t2 t3 : TypeId} {B : Nat} (h : Below B (((w.alloc (.cells c1 t1)).alloc (.cells c2 t2)).alloc (.cells c3 t3)) w1) (hB : w.heap.size + 2 < B) :
    (∀ j, w1.cell? ⟨w.heap.size, j, none⟩ = c1[j]?) ∧ (∀ j, w1.cell? ⟨w.heap.size + 1, j, none⟩ = c2[j]?) ∧ (∀ j, w1.cell? ⟨w.heap.size + 2, j, none⟩ = c3[j]?) ∧ (∀ j, w1.frozen? ⟨w.heap.size + 2, j, none⟩ = false) := by
  have e1 : w.heap.size + 1 = (w.alloc (.cells c1 t1)).heap.size := by simp
  have e2 : w.heap.size + 2 = ((w.alloc (.cells c1 t1)).alloc (.cells c2 t2)).heap.size := by simp
  refine ⟨fun j => ?_, fun j => ?_, fun j => ?_, fun j => ?_⟩
  · rw [h.cell (p := ⟨w.heap.size, j, none⟩) (by simp only; omega), World.cell?_alloc_lt _ _ _ (by simp; omega), World.cell?_alloc_lt _ _ _ (by simp), World.cell?_alloc_new]
  · rw [h.cell (p := ⟨w.heap.size + 1, j, none⟩) (by simp only; omega), World.cell?_alloc_lt _ _ _ (by simp), e1, World.cell?_alloc_new]
  · rw [h.cell (p := ⟨w.heap.size + 2, j, none⟩) (by simp only; omega), e2, World.cell?_alloc_new]
  · rw [h.frozen (p := ⟨w.heap.size + 2, j, none⟩) (by simp only; omega), e2, World.frozen?_alloc_new]

theorem get_hit (t : T) (key : ByteArray) (j : Nat) (hj : keyIx t.pairs key = j) : ∃ h : j < t.pairs.length, t.get key = some (t.pairs[j]).2 := by
  unfold keyIx at hj
  unfold T.get
  cases hx : t.pairs.findIdx? fun p => decide (p.1 = key) with
  | none => rw [hx] at hj; simp only at hj; omega
  | some i =>
    rw [hx] at hj
    simp only at hj
    obtain rfl : i = j := by omega
    obtain ⟨h1, h2, h3⟩ := List.findIdx?_eq_some_iff_getElem.1 hx
    refine ⟨h1, ?_⟩
    have : (t.pairs.find? fun p => decide (p.1 = key)) = some t.pairs[i] := by
      rw [List.find?_eq_some_iff_getElem]
      exact ⟨h2, i, h1, rfl, fun k hk => by simpa using h3 k hk⟩
    rw [this]
    rfl
theorem get_miss (t : T) (key : ByteArray) (h : keyIx t.pairs key < 0) : t.get key = none := by
  unfold keyIx at h
  unfold T.get
  cases hx : t.pairs.findIdx? fun p => decide (p.1 = key) with
  | none =>
    rw [List.find?_eq_none.2 fun p hp => by simpa using List.findIdx?_eq_none_iff.1 hx p hp]
    rfl
  | some i => rw [hx] at h; simp at h; omega

theorem node_pairs {w0 : World} {R : Nat → Prop} {t : T} {cs : Array Value} (h : Lies w0 R t cs) : ∃ a cap cm, SliceP w0 R t.pairs a cap cm ∧ ∀ w, Calls Tryd.prog 65 #[.agg cs] w fun e w' => e = .returned (.slice a t.pairs.length cap) ∧ Below w.heap.size w w' := by
  cases h with
  | mk k b n s l m la lc ma mc cl cm hk hn hs hl hm rl rm ks il im =>
    by_cases h5 : k = 5
    · have e : (T.mk k b n s l m).pairs = m := by rw [T.pairs, if_pos h5]
      rw [e]
      refine ⟨ma, mc, cm, ⟨hm, rm, ks, im⟩, fun w => ?_⟩
      have := pairs_any k b n s la l.length lc ma m.length mc w
      rw [if_pos h5] at this
      exact this
    · have e : (T.mk k b n s l m).pairs = [] := by rw [T.pairs, if_neg h5]
      rw [e]
      refine ⟨none, 0, cm, ⟨⟨by simp, by simp, fun _ => rfl, fun h => absurd h (by simp), by simp⟩, fun i h => absurd h (by simp), fun i h => absurd h (by simp), fun i h => absurd h (by simp)⟩, fun w => ?_⟩
      have := pairs_any k b n s la l.length lc ma m.length mc w
      rw [if_neg h5] at this
      exact this

end Go.Proofs.YtbbpipjadniafaaDoor
