/-
  What is laid over others: what is stripped stays so.
-/
import Derived.Test.YtbmlmcoepmbelaaDoorPutsM
import Derived.Test.YtbmlmcoepmbelaaDoorObjD
set_option linter.unusedVariables false
set_option linter.unusedSimpArgs false
namespace Go.Proofs.YtbmlmcoepmbelaaDoor
open Go.RowKit

theorem overR_empty (m : Prs) : overR [] m = (m.filter fun p => decide (p.2.kind ≠ 0)).map fun p => (p.1, T.over T.nil p.2) := by
  induction m with
  | nil => rw [overR_nil]; rfl
  | cons p r ih =>
    rw [overR_cons]
    have e1 : cutB p.1 [] = [] := rfl
    have e2 : cutA p.1 [] = [] := rfl
    have e3 : cutH p.1 [] = T.nil := rfl
    rw [e1, e2, e3, ih, List.nil_append]
    by_cases h : p.2.kind = 0
    · rw [if_pos h, List.filter_cons_of_neg (by simp [h])]; rfl
    · rw [if_neg h, List.filter_cons_of_pos (by simp [h])]; rfl

theorem over_kind (t u : T) : (T.over t u).kind = u.kind := by
  obtain ⟨k, b, n, s, l, m⟩ := u
  by_cases h : k = 5
  · subst h; rw [over_map]; rfl
  · rw [over_other t b n s l m h]

/-- Pairs of what is stripped, and not nothing. -/
def Pl (ps : Prs) : Prop := ∀ p ∈ ps, p.2.kind ≠ 0 ∧ T.over T.nil p.2 = p.2
theorem Pl.same {ps : Prs} (h : Pl ps) : overR [] ps = ps := by
  rw [overR_empty]
  induction ps with
  | nil => rfl
  | cons p r ih =>
    obtain ⟨h1, h2⟩ := h p (by simp)
    rw [List.filter_cons_of_pos (by simp [h1]), List.map_cons, h2, ih fun q hq => h q (by simp [hq])]

theorem nil_pairs : T.nil.pairs = [] := rfl
theorem over_nil_map (b : Bool) (n : Int) (s : ByteArray) (l : List T) (m : Prs) : T.over T.nil (.mk 5 b n s l m) = .mk 5 false 0 ⟨#[]⟩ [] (overR [] m) := by rw [over_map, nil_pairs]

theorem Pl.of_empty {m : Prs} (h : ∀ p ∈ m, T.over T.nil (T.over T.nil p.2) = T.over T.nil p.2) : Pl (overR [] m) := by
  intro q hq
  rw [overR_empty] at hq
  obtain ⟨p, hp, rfl⟩ := List.mem_map.1 hq
  obtain ⟨hp1, hp2⟩ := List.mem_filter.1 hp
  refine ⟨?_, h p hp1⟩
  show (T.over T.nil p.2).kind ≠ 0
  rw [over_kind]
  simpa using hp2

/-- What is stripped is stripped. -/
theorem over_idem (u : T) : T.over T.nil (T.over T.nil u) = T.over T.nil u := by
  induction u using T.ind with
  | h k b n s l m hl hm =>
    by_cases h : k = 5
    · subst h
      rw [over_nil_map, over_nil_map, (Pl.of_empty hm).same]
    · rw [over_other _ b n s l m h, over_other _ b n s l m h]

/-- The pairs of what is stripped. -/
theorem Pl.of_plain {c : T} (h : T.over T.nil c = c) : Pl c.pairs := by
  obtain ⟨k, b, n, s, l, m⟩ := c
  by_cases h5 : k = 5
  · subst h5
    rw [over_nil_map] at h
    have e : overR [] m = m := by injection h
    have : (T.mk 5 b n s l m).pairs = overR [] m := by rw [T.pairs, if_pos rfl, e]
    rw [this]
    exact Pl.of_empty fun p hp => over_idem p.2
  · have : (T.mk k b n s l m).pairs = [] := by rw [T.pairs, if_neg h5]
    rw [this]
    intro p hp; cases hp

theorem cutB_mem {key : ByteArray} : ∀ {ps : Prs} {q : ByteArray × T}, q ∈ cutB key ps → q ∈ ps
  | [], q, h => by cases h
  | p :: r, q, h => by
    rw [cutB] at h
    split at h
    · rcases List.mem_cons.1 h with rfl | h
      · simp
      · exact List.mem_cons_of_mem _ (cutB_mem h)
    · cases h
theorem cutA_mem {key : ByteArray} : ∀ {ps : Prs} {q : ByteArray × T}, q ∈ cutA key ps → q ∈ ps
  | [], q, h => by cases h
  | p :: r, q, h => by
    rw [cutA] at h
    split at h
    · exact List.mem_cons_of_mem _ (cutA_mem h)
    · split at h
      · exact List.mem_cons_of_mem _ h
      · exact h
theorem cutH_mem (key : ByteArray) : ∀ ps : Prs, cutH key ps = T.nil ∨ ∃ q ∈ ps, q.1 = key ∧ q.2 = cutH key ps
  | [] => .inl rfl
  | p :: r => by
    rw [cutH]
    split
    · rcases cutH_mem key r with h | ⟨q, hq, h⟩
      · exact .inl h
      · exact .inr ⟨q, List.mem_cons_of_mem _ hq, h⟩
    · split
      · rename_i h; exact .inr ⟨p, by simp, h, rfl⟩
      · exact .inl rfl
theorem Pl.here {key : ByteArray} {ps : Prs} (h : Pl ps) : Pl (cutH key ps).pairs := by
  rcases cutH_mem key ps with e | ⟨q, hq, _, e⟩
  · rw [e, nil_pairs]; intro p hp; cases hp
  · rw [← e]; exact Pl.of_plain (h q hq).2

theorem Pl.overR {m : Prs} (ih : ∀ p ∈ m, ∀ t : T, Pl t.pairs → T.over T.nil (T.over t p.2) = T.over t p.2) : ∀ {rest : Prs}, Pl rest → Pl (overR rest m) := by
  induction m with
  | nil => intro rest h; rw [overR_nil]; exact h
  | cons p r ihr =>
    intro rest h
    rw [overR_cons]
    have h1 : Pl (Go.Proofs.YtbmlmcoepmbelaaDoor.overR (cutA p.1 rest) r) := ihr (fun q hq => ih q (by simp [hq])) fun q hq => h q (cutA_mem hq)
    intro q hq
    rcases List.mem_append.1 hq with hq | hq
    · exact h q (cutB_mem hq)
    · rcases List.mem_append.1 hq with hq | hq
      · by_cases h0 : p.2.kind = 0
        · rw [if_pos h0] at hq; cases hq
        · rw [if_neg h0] at hq
          obtain rfl : q = (p.1, T.over (cutH p.1 rest) p.2) := by simpa using hq
          refine ⟨?_, ih p (by simp) _ h.here⟩
          show (T.over _ p.2).kind ≠ 0
          rw [over_kind]; exact h0
      · exact h1 q hq

/-- Over what is stripped nothing comes back. -/
theorem over_plain (u : T) : ∀ t : T, Pl t.pairs → T.over T.nil (T.over t u) = T.over t u := by
  induction u using T.ind with
  | h k b n s l m hl hm =>
    intro t ht
    by_cases h : k = 5
    · subst h
      rw [over_map, over_nil_map, (Pl.overR hm ht).same]
    · rw [over_other _ b n s l m h, over_other _ b n s l m h]

/-- An empty map is taken for nothing. -/
theorem over_pairs {t t' : T} (u : T) (h : t.pairs = t'.pairs) : T.over t u = T.over t' u := by
  obtain ⟨k, b, n, s, l, m⟩ := u
  by_cases h5 : k = 5
  · subst h5; rw [over_map, over_map, h]
  · rw [over_other _ b n s l m h5, over_other _ b n s l m h5]

end Go.Proofs.YtbmlmcoepmbelaaDoor

/-
  What a document tells of itself: sizes.
-/
set_option linter.unusedVariables false
set_option linter.unusedSimpArgs false
namespace Go.Proofs.YtbmlmcoepmbelaaDoor
open Go.RowKit Go.Sort

theorem get_lies {w : World} {R : Nat → Prop} {t : T} {cs : Array Value} (h : Lies w R t cs) (key : ByteArray) : ∃ ds, Lies w R ((t.get key).getD T.nil) ds := by
  cases hg : t.get key with
  | none => exact ⟨_, nil_lies w R⟩
  | some u =>
    unfold T.get at hg
    obtain ⟨p, hp, rfl⟩ := Option.map_eq_some_iff.1 hg
    have hm := List.mem_of_find?_eq_some hp
    cases h with
    | mk k b n s l m la lc ma mc cl cm hk hn hs hl hm2 rl rm ks il im =>
      unfold T.pairs at hm
      simp only [T.kind, T.map] at hm
      split at hm
      · obtain ⟨i, hi, rfl⟩ := List.getElem_of_mem hm
        exact ⟨_, im i hi⟩
      · cases hm
theorem txt_size {w : World} {R : Nat → Prop} {t : T} {cs : Array Value} (h : Lies w R t cs) : (txtO t).size ≤ 140737488355328 := by
  obtain ⟨c0, c1, c2, c3, c4, c4l, c4c, c5, c5l, c5c, rfl⟩ := h.six
  obtain ⟨h1, h2, h3⟩ := lies_flat h
  rw [txtO, h1, h2, txtC]
  split
  · exact h3
  · exact Nat.zero_le _
theorem named_sizes {w : World} {R : Nat → Prop} {t : T} {cs : Array Value} (h : Lies w R t cs) : (kindO t).size ≤ 140737488355328 ∧ (spaceO t).size ≤ 140737488355328 ∧ (nameO t).size ≤ 140737488355328 := by
  obtain ⟨_, h1⟩ := get_lies h kKind
  obtain ⟨_, h2⟩ := get_lies h kMeta
  obtain ⟨_, h3⟩ := get_lies h2 kName
  obtain ⟨_, h4⟩ := get_lies h2 kSpace
  refine ⟨txt_size h1, ?_, txt_size h3⟩
  unfold spaceO
  revert h4
  unfold metaO
  cases ((t.get kMeta).getD T.nil).get kSpace with
  | none => intro _; decide
  | some u => intro h4; exact txt_size h4

end Go.Proofs.YtbmlmcoepmbelaaDoor
