/-
  Leaves, read one by one.
-/
import Derived.Test.YtfmlhdkodnbfaaaLvsLM
import Derived.Test.YtfmlhdkodnbfaaaTwoP
import Derived.Test.YtfmlhdkodnbfaaaSpecsL
import Derived.Test.YtfmlhdkodnbfaaaRCompareM
set_option linter.unusedVariables false
set_option linter.unusedSimpArgs false
namespace Go.Proofs.Ytfmlhdkodnbfaaa
open Go.RowKit Go.Sort

theorem one_value {w1 : World} {R1 : Nat → Prop} {t : T} {k : Int} {b : Bool} {n : Int} {s : ByteArray} {la : Option Addr} {ll lc : Nat} {ma : Option Addr} {ml mc : Nat}
    (h1 : Lies w1 R1 t #[.int .i64 k, .bool b, .int .i64 n, .string s, .slice la ll lc, .slice ma ml mc]) :
    SliceV (w1.alloc (.cells #[.int .i64 k, .bool b, .int .i64 n, .string s, .slice la ll lc, .slice ma ml mc] 25)) (fun _ => True) [t] (some ⟨w1.heap.size, 0, none⟩) 1
      (fun i => #[.int .i64 k, .bool b, .int .i64 n, .string s, .slice la ll lc, .slice ma ml mc]) := by
  have hb := Below.alloc (Below.refl w1.heap.size w1) (Nat.le_refl _) (.cells #[.int .i64 k, .bool b, .int .i64 n, .string s, .slice la ll lc, .slice ma ml mc] 25)
  refine ⟨⟨Nat.le_refl 1, (by decide : 1 * 88 ≤ 140737488355328), by simp, fun _ => ⟨_, _, rfl, trivial⟩, by omega⟩, fun i hi bl ol e => ?_, fun i hi => ?_⟩
  · simp only [Option.some.injEq, Addr.mk.injEq, and_true] at e
    obtain ⟨rfl, rfl⟩ := e
    have hi : i < 1 := by simpa using hi
    obtain rfl : i = 0 := by omega
    intro j hj
    rw [Nat.zero_mul, Nat.zero_add, World.cell?_alloc_new]
    exact Array.getElem?_eq_getElem _
  · have hi : i < 1 := by simpa using hi
    obtain rfl : i = 0 := by omega
    exact (h1.later hb).weaken fun _ _ => trivial

/-- Leaf j, in a later world. -/
theorem SliceK.leaf {w w' : World} {K : List LQ} {a : Option Addr} {cap : Nat} {ls : Lvs} (h : SliceK w K a cap) (hw : K.map LQ.strip = ls) (hb : Below w.heap.size w w') {j : Nat} (hj : j < ls.length) :
    ∃ (b off : Nat) (qa : Option Addr) (qc : Nat) (d0 : Int) (d1 : Bool) (d2 : Int) (d3 : ByteArray) (d4 : Option Addr) (d4l d4c : Nat) (d5 : Option Addr) (d5l d5c : Nat), a = some ⟨b, off, none⟩ ∧ w'.cell? ⟨b, off + j * 7, none⟩ = some (.slice qa ls[j].1.length qc) ∧
      w'.cell? ⟨b, off + j * 7 + 1, none⟩ = some (.int .i64 d0) ∧ w'.cell? ⟨b, off + j * 7 + 2, none⟩ = some (.bool d1) ∧ w'.cell? ⟨b, off + j * 7 + 3, none⟩ = some (.int .i64 d2) ∧ w'.cell? ⟨b, off + j * 7 + 4, none⟩ = some (.string d3) ∧ w'.cell? ⟨b, off + j * 7 + 5, none⟩ = some (.slice d4 d4l d4c) ∧ w'.cell? ⟨b, off + j * 7 + 6, none⟩ = some (.slice d5 d5l d5c) ∧
      SliceS w' ls[j].1 qa qc ∧ Lies w' (fun _ => True) ls[j].2 #[.int .i64 d0, .bool d1, .int .i64 d2, .string d3, .slice d4 d4l d4c, .slice d5 d5l d5c] := by
  subst hw
  have hj' : j < K.length := by simpa using hj
  obtain ⟨b, off, e⟩ := h.ofSome (by omega)
  have hr := h.rows j hj' b off e
  have hl := h.each j hj'
  have ej : (K.map LQ.strip)[j] = K[j].strip := by simp
  rw [ej]
  generalize K[j] = q at hr hl
  obtain ⟨qp, qv, qa, qc, qd⟩ := q
  obtain ⟨d0, d1, d2, d3, d4, d4l, d4c, d5, d5l, d5c, e9⟩ := hl.val.six
  have e9 : qd = #[.int .i64 d0, .bool d1, .int .i64 d2, .string d3, .slice d4 d4l d4c, .slice d5 d5l d5c] := e9
  subst e9
  have hrow : Row w' b (off + j * 7) #[.slice qa qp.length qc, .int .i64 d0, .bool d1, .int .i64 d2, .string d3, .slice d4 d4l d4c, .slice d5 d5l d5c] := fun i hi => cells_frame hb (hr i hi)
  obtain ⟨r0, r1, r2, r3, r4, r5, r6⟩ := Row.seven hrow
  exact ⟨b, off, qa, qc, d0, d1, d2, d3, d4, d4l, d4c, d5, d5l, d5c, e, r0, r1, r2, r3, r4, r5, r6, hl.steps.later hb, hl.val.later hb⟩

theorem leaf_len (t : T) : ∀ q ∈ leavesT t, q.1.length ≤ t.size := by
  induction t using T.ind with
  | _ k b n s l m hl hm =>
    intro q hq
    by_cases h : m = []
    · rw [leaves_one (show (T.mk k b n s l m).map = [] from h)] at hq
      obtain rfl := List.mem_singleton.1 hq
      simp
    · rw [leaves_flat (show (T.mk k b n s l m).map ≠ [] from h)] at hq
      obtain ⟨p, hpm, y, hy, rfl⟩ := mem_flatM.1 hq
      have h1 := hm p hpm y hy
      have h2 := le_sum (List.mem_map.2 ⟨p, hpm, rfl⟩ : p.2.size ∈ m.map fun p => p.2.size)
      rw [T.size_mk]
      show (p.1 :: y.1).length ≤ _
      rw [List.length_cons]
      omega

end Go.Proofs.Ytfmlhdkodnbfaaa
