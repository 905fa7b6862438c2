/-
  The reference's Over, on the trees alone: what one round of it lays.
-/
import Derived.Test.YtlniokpekcoodaaGreatDoorRStripV
import Derived.Test.YtlniokpekcoodaaGreatDoorGoodM
set_option linter.unusedVariables false
set_option linter.unusedSimpArgs false
namespace Go.Proofs.YtlniokpekcoodaaGreatDoor
open Go.RowKit Go.Sort

theorem overR_left (r : ByteArray × T) (rest : Prs) (p : ByteArray × T) (ps : Prs) (h : ltS r.1 p.1 = true) : overR (r :: rest) (p :: ps) = r :: overR rest (p :: ps) := by
  rw [overR_cons, overR_cons, cutB, if_pos h, cutH, if_pos h, cutA, if_pos h]
  rfl
theorem over_left_at (m1 m2 : Prs) (i j : Nat) (hi : i < m1.length) (h : ∀ hj : j < m2.length, ltS m1[i].1 m2[j].1 = true) : overR (m1.drop i) (m2.drop j) = [m1[i]] ++ overR (m1.drop (i + 1)) (m2.drop j) := by
  by_cases hj : j < m2.length
  · rw [drop_cons m1 i hi, drop_cons m2 j hj, overR_left _ _ _ _ (h hj)]
    rfl
  · rw [List.drop_eq_nil_of_le (show m2.length ≤ j by omega), overR_nil, overR_nil, drop_cons m1 i hi]
    rfl
theorem over_both_at (m1 m2 : Prs) (i j : Nat) (hi : i < m1.length) (hj : j < m2.length) (h : m1[i].1 = m2[j].1) : overR (m1.drop i) (m2.drop j) = (if m2[j].2.kind = 0 then [] else [(m2[j].1, T.over m1[i].2 m2[j].2)]) ++ overR (m1.drop (i + 1)) (m2.drop (j + 1)) := by
  have hl : ¬ ltS m1[i].1 m2[j].1 = true := by rw [h, ltS_irr]; simp
  rw [drop_cons m1 i hi, drop_cons m2 j hj, overR_cons, cutB, if_neg hl, cutH, if_neg hl, if_pos h, cutA, if_neg hl, if_pos h]
  rfl
theorem over_right_at (m1 m2 : Prs) (i j : Nat) (hj : j < m2.length) (h : ∀ hi : i < m1.length, ltS m1[i].1 m2[j].1 = false ∧ m1[i].1 ≠ m2[j].1) : overR (m1.drop i) (m2.drop j) = (if m2[j].2.kind = 0 then [] else [(m2[j].1, T.over T.nil m2[j].2)]) ++ overR (m1.drop i) (m2.drop (j + 1)) := by
  by_cases hi : i < m1.length
  · obtain ⟨h1, h2⟩ := h hi
    have hl : ¬ ltS m1[i].1 m2[j].1 = true := by rw [h1]; simp
    rw [drop_cons m1 i hi, drop_cons m2 j hj, overR_cons, cutB, if_neg hl, cutH, if_neg hl, if_neg h2, cutA, if_neg hl, if_neg h2]
    rfl
  · rw [List.drop_eq_nil_of_le (show m1.length ≤ i by omega), drop_cons m2 j hj, overR_cons]
    rfl

theorem BoxA.block {w w' : World} {b : Nat} {c0 c1 c2 c3 c4 c5 : Value} (h : BoxA w b c0 c1 c2 c3 c4 c5) (hb : w'.heap[b]? = w.heap[b]?) : BoxA w' b c0 c1 c2 c3 c4 c5 :=
  ⟨(World.cell?_of_block hb).trans h.1, (World.cell?_of_block hb).trans h.2.1, (World.cell?_of_block hb).trans h.2.2.1, (World.cell?_of_block hb).trans h.2.2.2.1, (World.cell?_of_block hb).trans h.2.2.2.2.1, (World.cell?_of_block hb).trans h.2.2.2.2.2⟩
theorem box_two (w : World) (c0 c1 c2 c3 c4 c5 z0 z1 z2 z3 z4 z5 : Value) (t t' : TypeId) : BoxA ((w.alloc (.cells #[c0, c1, c2, c3, c4, c5] t)).alloc (.cells #[z0, z1, z2, z3, z4, z5] t')) w.heap.size c0 c1 c2 c3 c4 c5 ∧ BoxA ((w.alloc (.cells #[c0, c1, c2, c3, c4, c5] t)).alloc (.cells #[z0, z1, z2, z3, z4, z5] t')) (w.heap.size + 1) z0 z1 z2 z3 z4 z5 := by
  refine ⟨(BoxA.new w c0 c1 c2 c3 c4 c5 t).later ((Below.refl _ _).alloc (Nat.le_refl _) _), ?_⟩
  have h := BoxA.new (w.alloc (.cells #[c0, c1, c2, c3, c4, c5] t)) z0 z1 z2 z3 z4 z5 t'
  have e : (w.alloc (.cells #[c0, c1, c2, c3, c4, c5] t)).heap.size = w.heap.size + 1 := by simp
  rwa [e] at h

end Go.Proofs.YtlniokpekcoodaaGreatDoor

/-
  What must be laid over a value so that it is another one: on the trees alone.
-/
set_option linter.unusedVariables false
set_option linter.unusedSimpArgs false
namespace Go.Proofs.YtlniokpekcoodaaGreatDoor
open Go.RowKit

/-- Pairs of the same keys that have nothing. -/
def goneR (m : Prs) : Prs := m.map fun p => (p.1, T.nil)
/-- What is laid over here so that it is x, d being the layer of two maps; none: nothing. -/
def chg (here x d : T) : Option T := if here.kind = 5 ∧ x.kind = 5 then (if d.pairs.length = 0 then none else some d) else if T.cmp here x = 0 then none else some x
def oneR (key : ByteArray) (o : Option T) : Prs := match o with | none => [] | some d => [(key, d)]

mutual
/-- The layer that makes u out of t. -/
def T.diff (t : T) : T → T
  | .mk k b n s l m => if t.kind = 5 ∧ k = 5 then .mk 5 false 0 ⟨#[]⟩ [] (diffR t.pairs m) else .mk k b n s l m
termination_by u => SizeOf.sizeOf u
decreasing_by simp only [T.mk.sizeOf_spec]; omega
def diffR (rest : Prs) : Prs → Prs
  | [] => goneR rest
  | p :: ps => goneR (cutB p.1 rest) ++ (oneR p.1 (chg (cutH p.1 rest) p.2 (T.diff (cutH p.1 rest) p.2)) ++ diffR (cutA p.1 rest) ps)
termination_by m => SizeOf.sizeOf m
decreasing_by
  · obtain ⟨a, b⟩ := p
    simp only [List.cons.sizeOf_spec, Prod.mk.sizeOf_spec]; omega
  · simp only [List.cons.sizeOf_spec]; omega
end

theorem pairs5 (b : Bool) (n : Int) (s : ByteArray) (l : List T) (m : Prs) : (T.mk 5 b n s l m).pairs = m := by rw [T.pairs, if_pos rfl]
theorem pairs_ne {k : Int} (b : Bool) (n : Int) (s : ByteArray) (l : List T) (m : Prs) (h : k ≠ 5) : (T.mk k b n s l m).pairs = [] := by rw [T.pairs, if_neg h]
/-- What stands under a key of the layer. -/
def diffAt (was : Option T) : Option T → Option T
  | none => was.map fun _ => T.nil
  | some x => chg (was.getD T.nil) x (T.diff (was.getD T.nil) x)

theorem nil_parts : T.nil.parts = 0 := by
  unfold T.nil
  refine parts_ok ?_ (by decide) (by simp) (by simp)
  unfold kindBad
  have : (⟨#[]⟩ : ByteArray).toList.isEmpty = true := by rw [ByteArray.toList_eq]; rfl
  simp [this]

end Go.Proofs.YtlniokpekcoodaaGreatDoor
