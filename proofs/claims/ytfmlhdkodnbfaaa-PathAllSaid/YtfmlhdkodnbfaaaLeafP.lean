/-
  A value is its leaves: pure.
-/
import Derived.Test.YtfmlhdkodnbfaaaPathSM
import Derived.Test.YtfmlhdkodnbfaaaDiffP
set_option linter.unusedVariables false
set_option linter.unusedSimpArgs false
namespace Go.Proofs.Ytfmlhdkodnbfaaa
open Go.RowKit Go.Sort

abbrev Lvs := List (List ByteArray × T)
/-- The leaves: steps, and what stands there. -/
def leavesT : T → Lvs
  | .mk k b n s l m => if m = [] then [([], .mk k b n s l m)] else (m.map fun p => (leavesT p.2).map fun q => (p.1 :: q.1, q.2)).flatten
termination_by t => t
decreasing_by
  all_goals first
    | exact T.lt_l ‹_›
    | exact T.lt_m ‹_›
/-- Put one by one. -/
def putAll (ls : Lvs) (a : T) : T := ls.foldl (fun a q => putL q.1 a q.2) a
/-- What is left of them under a key. -/
def subL (k : ByteArray) (ls : Lvs) : Lvs := ls.filterMap fun q => match q.1 with
  | [] => none
  | a :: r => if a = k then some (r, q.2) else none
theorem subL_nil (k : ByteArray) : subL k [] = [] := rfl
theorem subL_here {k : ByteArray} {r : List ByteArray} {x : T} {ls : Lvs} : subL k ((k :: r, x) :: ls) = (r, x) :: subL k ls := by
  unfold subL
  rw [List.filterMap_cons]
  simp
theorem subL_other {k a : ByteArray} {r : List ByteArray} {x : T} {ls : Lvs} (h : a ≠ k) : subL k ((a :: r, x) :: ls) = subL k ls := by
  unfold subL
  rw [List.filterMap_cons]
  simp [h]
theorem subL_append (k : ByteArray) (a b : Lvs) : subL k (a ++ b) = subL k a ++ subL k b := by unfold subL; rw [List.filterMap_append]
theorem subL_cons (k : ByteArray) (ls : Lvs) : subL k (ls.map fun q => (k :: q.1, q.2)) = ls := by
  induction ls with
  | nil => rfl
  | cons q r ih =>
    obtain ⟨a, x⟩ := q
    rw [List.map_cons, subL_here, ih]
theorem subL_none {k a : ByteArray} (h : a ≠ k) (ls : Lvs) : subL k (ls.map fun q => (a :: q.1, q.2)) = [] := by
  induction ls with
  | nil => rfl
  | cons q r ih => rw [List.map_cons, subL_other h, ih]
theorem leaves_ne (t : T) : leavesT t ≠ [] := by
  induction t using T.ind with
  | _ k b n s l m hl hm =>
    rw [leavesT]
    by_cases h : m = []
    · rw [if_pos h]; simp
    · rw [if_neg h]
      obtain ⟨p, r, rfl⟩ := List.exists_cons_of_ne_nil h
      rw [List.map_cons, List.flatten_cons]
      intro e
      have := (List.append_eq_nil_iff.1 e).1
      exact hm p (by simp) (List.map_eq_nil_iff.1 this)
/-- Put one by one under the keys: under each key what is put there. -/
theorem putAll_get : ∀ (ls : Lvs) (a : T) (k : ByteArray), (∀ q ∈ ls, q.1 ≠ []) → (putAll ls a).get k = if subL k ls = [] then a.get k else some (putAll (subL k ls) (inL k a))
  | [], a, k, _ => rfl
  | q :: ls, a, k, h => by
    obtain ⟨l, x⟩ := q
    cases l with
    | nil => exact absurd rfl (h _ (List.mem_cons_self ..))
    | cons k' r =>
      show (putAll ls (a.put k' (putL r (inL k' a) x))).get k = _
      rw [putAll_get ls _ k fun q hq => h q (List.mem_cons_of_mem _ hq)]
      by_cases hk : k' = k
      · subst hk
        have hne : ¬ ((r, x) :: subL k' ls = []) := List.cons_ne_nil _ _
        have e : inL k' (a.put k' (putL r (inL k' a) x)) = putL r (inL k' a) x := by
          show ((a.put k' (putL r (inL k' a) x)).get k').getD T.nil = _
          rw [get_put]
          rfl
        rw [subL_here, if_neg hne, e]
        by_cases hs : subL k' ls = []
        · rw [if_pos hs, hs, get_put]
          rfl
        · rw [if_neg hs]
          rfl
      · have e : inL k (a.put k' (putL r (inL k' a) x)) = inL k a := by
          show ((a.put k' (putL r (inL k' a) x)).get k).getD T.nil = (a.get k).getD T.nil
          rw [get_put_other _ _ _ _ (fun e => hk e.symm)]
        rw [subL_other hk, get_put_other _ _ _ _ (fun e => hk e.symm), e]
theorem putR_asc {key : ByteArray} {x : T} : ∀ {m : Prs}, Asc m → Asc (putR key x m)
  | [], _ => List.pairwise_singleton _ _
  | p :: r, h => by
    have mem : ∀ {m : Prs} {q : ByteArray × T}, q ∈ putR key x m → q = (key, x) ∨ q ∈ m := by
      intro m
      induction m with
      | nil => intro q hq; exact .inl (by simpa [putR] using hq)
      | cons p r ih =>
        intro q hq
        rcases putR_cases p key with ⟨hl, hn⟩ | he | ⟨hl, hn⟩
        · rw [putR_lt hl] at hq
          rcases List.mem_cons.1 hq with rfl | hq
          · exact .inr (by simp)
          · exact (ih hq).imp id fun h => by simp [h]
        · rw [putR_eq he] at hq
          rcases List.mem_cons.1 hq with rfl | hq
          · exact .inl rfl
          · exact .inr (by simp [hq])
        · rw [putR_gt hl hn] at hq
          rcases List.mem_cons.1 hq with rfl | hq
          · exact .inl rfl
          · exact .inr hq
    rcases putR_cases p key with ⟨hl, hn⟩ | he | ⟨hl, hn⟩
    · rw [putR_lt hl]
      refine List.pairwise_cons.2 ⟨fun q hq => ?_, putR_asc h.tail⟩
      rcases mem hq with rfl | hq
      · exact hl
      · exact h.head q hq
    · rw [putR_eq he]
      exact List.pairwise_cons.2 ⟨fun q hq => by have := h.head q hq; rw [he] at this; exact this, h.tail⟩
    · rw [putR_gt hl hn]
      refine List.pairwise_cons.2 ⟨fun q hq => ?_, h⟩
      have h1 := ltS_total hl hn
      rcases List.mem_cons.1 hq with rfl | hq
      · exact h1
      · exact ltS_trans h1 (h.head q hq)
/-- What is put one by one into a map whose keys rise is such a map. -/
theorem putAll_form : ∀ (ls : Lvs) (a : T), (∀ q ∈ ls, q.1 ≠ []) → Asc a.pairs → (ls ≠ [] ∨ a = .mk 5 false 0 ⟨#[]⟩ [] a.pairs) → putAll ls a = .mk 5 false 0 ⟨#[]⟩ [] (putAll ls a).pairs ∧ Asc (putAll ls a).pairs
  | [], a, _, ha, h => by
    rcases h with h | h
    · exact absurd rfl h
    · exact ⟨h, ha⟩
  | q :: ls, a, h, ha, _ => by
    obtain ⟨l, x⟩ := q
    cases l with
    | nil => exact absurd rfl (h _ (List.mem_cons_self ..))
    | cons k r =>
      exact putAll_form ls _ (fun q hq => h q (List.mem_cons_of_mem _ hq)) (by show Asc (a.put k (putL r (inL k a) x)).pairs; rw [put_pairs]; exact putR_asc ha) (.inr (by show a.put k (putL r (inL k a) x) = T.mk 5 false 0 ⟨#[]⟩ [] (a.put k (putL r (inL k a) x)).pairs; rw [put_pairs]; rfl))
theorem subL_flat (k : ByteArray) : ∀ m : Prs, Asc m → subL k ((m.map fun p => (leavesT p.2).map fun q => (p.1 :: q.1, q.2)).flatten) = (match findR k m with | none => [] | some u => leavesT u)
  | [], _ => rfl
  | p :: r, h => by
    rw [List.map_cons, List.flatten_cons, subL_append]
    by_cases hk : p.1 = k
    · have hr : findR k r = none := findR_none fun x hx e => by
        have := h.head x hx
        rw [e, hk, ltS_irr] at this
        cases this
      rw [findR_here hk, subL_flat k r h.tail, hr]
      subst hk
      rw [subL_cons]
      show leavesT p.2 ++ [] = leavesT p.2
      rw [List.append_nil]
    · rw [findR_skip hk, subL_none hk, subL_flat k r h.tail]
      rfl
/-- A value is its leaves, put in any order. -/
theorem putAll_leaves (t : T) : t.parts = 0 → ∀ ls : Lvs, ls.Perm (leavesT t) → putAll ls T.nil = t := by
  induction t using T.ind with
  | _ k b n s l m hl hm =>
    intro hp ls hperm
    have hf := fine_of hp
    rw [leavesT] at hperm
    by_cases h : m = []
    · rw [if_pos h] at hperm
      rw [List.perm_singleton.1 hperm]
      rfl
    · rw [if_neg h] at hperm
      have hpm : (T.mk k b n s l m).pairs = m := hf.pairs.symm
      have asc : Asc m := by have := hf.asc; rwa [hpm] at this
      have form := hf.five (by rw [hpm]; exact h)
      rw [hpm] at form
      have hne : ∀ q ∈ ls, q.1 ≠ [] := fun q hq => by
        have := hperm.mem_iff.1 hq
        obtain ⟨x, hx, hqx⟩ := List.mem_flatten.1 this
        obtain ⟨p, hp, rfl⟩ := List.mem_map.1 hx
        obtain ⟨y, hy, rfl⟩ := List.mem_map.1 hqx
        simp
      have hln : ls ≠ [] := fun e => by
        rw [e] at hperm
        have h0 := leaves_ne (T.mk k b n s l m)
        rw [leavesT, if_neg h] at h0
        exact h0 (List.nil_perm.1 hperm)
      obtain ⟨e1, e2⟩ := putAll_form ls T.nil hne List.Pairwise.nil (.inl hln)
      rw [e1, form]
      congr 1
      refine ext_find e2 asc fun key => ?_
      have hg := putAll_get ls T.nil key hne
      rw [T.get_find] at hg
      rw [hg]
      have hs : (subL key ls).Perm (subL key ((m.map fun p => (leavesT p.2).map fun q => (p.1 :: q.1, q.2)).flatten)) := List.Perm.filterMap _ hperm
      rw [subL_flat key m asc] at hs
      cases hfk : findR key m with
      | none =>
        rw [hfk] at hs
        rw [if_pos (List.perm_nil.1 hs)]
        rfl
      | some u =>
        rw [hfk] at hs
        have hs : (subL key ls).Perm (leavesT u) := hs
        have hsn : subL key ls ≠ [] := fun e => by
          rw [e] at hs
          exact leaves_ne u (List.nil_perm.1 hs)
        rw [if_neg hsn]
        have hmem := find_mem hfk
        exact congrArg some (hm _ hmem (hf.each _ (by rw [hpm]; exact hmem)) _ hs)

end Go.Proofs.Ytfmlhdkodnbfaaa
