/-
  What a document tells of itself: sizes.
-/
import Derived.Test.YtbmlmcoepmbelaaDoorObjD
import Derived.Test.YtbmlmcoepmbelaaDoorOverP
set_option linter.unusedVariables false
set_option linter.unusedSimpArgs false
namespace Go.Proofs.YtbmlmcoepmbelaaDoor
open Go.RowKit Go.Sort

theorem get_lies {w : World} {R : Nat → Prop} {t : T} {cs : Array Value} (h : Lies w R t cs) (key : ByteArray) : ∃ ds, Lies w R ((t.get key).getD T.nil) ds := by
  cases hg : t.get key with
  | none => exact ⟨_, nil_lies w R⟩
  | some u =>
    unfold T.get at hg
    obtain ⟨p, hp, rfl⟩ := Option.map_eq_some_iff.1 hg
    have hm := List.mem_of_find?_eq_some hp
    cases h with
    | mk k b n s l m la lc ma mc cl cm hk hn hs hl hm2 rl rm ks il im =>
      unfold T.pairs at hm
      simp only [T.kind, T.map] at hm
      split at hm
      · obtain ⟨i, hi, rfl⟩ := List.getElem_of_mem hm
        exact ⟨_, im i hi⟩
      · cases hm
theorem txt_size {w : World} {R : Nat → Prop} {t : T} {cs : Array Value} (h : Lies w R t cs) : (txtO t).size ≤ 140737488355328 := by
  obtain ⟨c0, c1, c2, c3, c4, c4l, c4c, c5, c5l, c5c, rfl⟩ := h.six
  obtain ⟨h1, h2, h3⟩ := lies_flat h
  rw [txtO, h1, h2, txtC]
  split
  · exact h3
  · exact Nat.zero_le _
theorem named_sizes {w : World} {R : Nat → Prop} {t : T} {cs : Array Value} (h : Lies w R t cs) : (kindO t).size ≤ 140737488355328 ∧ (spaceO t).size ≤ 140737488355328 ∧ (nameO t).size ≤ 140737488355328 := by
  obtain ⟨_, h1⟩ := get_lies h kKind
  obtain ⟨_, h2⟩ := get_lies h kMeta
  obtain ⟨_, h3⟩ := get_lies h2 kName
  obtain ⟨_, h4⟩ := get_lies h2 kSpace
  refine ⟨txt_size h1, ?_, txt_size h3⟩
  unfold spaceO
  revert h4
  unfold metaO
  cases ((t.get kMeta).getD T.nil).get kSpace with
  | none => intro _; decide
  | some u => intro h4; exact txt_size h4

end Go.Proofs.YtbmlmcoepmbelaaDoor
