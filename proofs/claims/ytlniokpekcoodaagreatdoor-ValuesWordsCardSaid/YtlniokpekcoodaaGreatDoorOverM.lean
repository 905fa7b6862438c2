/-
  Values laid over others: on the trees alone.
-/
import Derived.Test.YtlniokpekcoodaaGreatDoorPutsM
set_option linter.unusedVariables false
set_option linter.unusedSimpArgs false
namespace Go.Proofs.YtlniokpekcoodaaGreatDoor
open Go.RowKit

abbrev Prs := List (ByteArray × T)

/-- Those below a key. -/
def cutB (key : ByteArray) : Prs → Prs
  | [] => []
  | p :: r => if ltS p.1 key = true then p :: cutB key r else []
/-- What stands under it, or nothing. -/
def cutH (key : ByteArray) : Prs → T
  | [] => T.nil
  | p :: r => if ltS p.1 key = true then cutH key r else if p.1 = key then p.2 else T.nil
/-- Those above. -/
def cutA (key : ByteArray) : Prs → Prs
  | [] => []
  | p :: r => if ltS p.1 key = true then cutA key r else if p.1 = key then r else p :: r

mutual
/-- u laid over t. -/
def T.over (t : T) : T → T
  | .mk k b n s l m => if k = 5 then .mk 5 false 0 ⟨#[]⟩ [] (overR t.pairs m) else .mk k b n s l m
termination_by u => SizeOf.sizeOf u
decreasing_by simp only [T.mk.sizeOf_spec]; omega
def overR (rest : Prs) : Prs → Prs
  | [] => rest
  | p :: ps => cutB p.1 rest ++ ((if p.2.kind = 0 then [] else [(p.1, T.over (cutH p.1 rest) p.2)]) ++ overR (cutA p.1 rest) ps)
termination_by m => SizeOf.sizeOf m
decreasing_by
  · obtain ⟨a, b⟩ := p
    simp only [List.cons.sizeOf_spec, Prod.mk.sizeOf_spec]; omega
  · simp only [List.cons.sizeOf_spec]; omega
end

theorem over_map (t : T) (b : Bool) (n : Int) (s : ByteArray) (l : List T) (m : Prs) : T.over t (.mk 5 b n s l m) = .mk 5 false 0 ⟨#[]⟩ [] (overR t.pairs m) := by rw [T.over, if_pos rfl]
theorem over_other (t : T) {k : Int} (b : Bool) (n : Int) (s : ByteArray) (l : List T) (m : Prs) (h : k ≠ 5) : T.over t (.mk k b n s l m) = .mk k b n s l m := by rw [T.over, if_neg h]
theorem overR_nil (rest : Prs) : overR rest [] = rest := by rw [overR]
theorem overR_cons (rest : Prs) (p : ByteArray × T) (ps : Prs) : overR rest (p :: ps) = cutB p.1 rest ++ ((if p.2.kind = 0 then [] else [(p.1, T.over (cutH p.1 rest) p.2)]) ++ overR (cutA p.1 rest) ps) := by rw [overR]

/-- Where a key cuts. -/
theorem cut_at (key : ByteArray) : ∀ (i : Nat) (ps : Prs), i ≤ ps.length → (∀ j (h : j < ps.length), j < i → ltS ps[j].1 key = true) → (∀ h : i < ps.length, ltS ps[i].1 key = false) →
    cutB key ps = ps.take i ∧ ((∃ h : i < ps.length, ps[i].1 = key ∧ cutH key ps = ps[i].2 ∧ cutA key ps = ps.drop (i + 1)) ∨ ((∀ h : i < ps.length, ps[i].1 ≠ key) ∧ cutH key ps = T.nil ∧ cutA key ps = ps.drop i))
  | 0, [], _, _, _ => ⟨rfl, .inr ⟨fun h => absurd h (by simp), rfl, rfl⟩⟩
  | 0, p :: r, _, _, h1 => by
    have hf : ltS p.1 key = false := h1 (by simp)
    have n1 : ¬ ltS p.1 key = true := by simp [hf]
    refine ⟨by rw [cutB, if_neg n1]; rfl, ?_⟩
    by_cases e : p.1 = key
    · exact .inl ⟨by simp, e, by rw [cutH, if_neg n1, if_pos e]; rfl, by rw [cutA, if_neg n1, if_pos e]; rfl⟩
    · exact .inr ⟨fun _ => e, by rw [cutH, if_neg n1, if_neg e], by rw [cutA, if_neg n1, if_neg e]; rfl⟩
  | i + 1, [], h, _, _ => absurd h (by simp)
  | i + 1, p :: r, h, h0, h1 => by
    have hf : ltS p.1 key = true := h0 0 (by simp) (by omega)
    obtain ⟨e1, e2⟩ := cut_at key i r (by simpa using h) (fun j hj hij => by have := h0 (j + 1) (by simpa using hj) (by omega); simpa using this) (fun hi => by have := h1 (by simpa using hi); simpa using this)
    refine ⟨by rw [cutB, if_pos hf, e1]; rfl, ?_⟩
    rcases e2 with ⟨hi, e, a1, a2⟩ | ⟨hn, a1, a2⟩
    · exact .inl ⟨by simpa using hi, by simpa using e, by rw [cutH, if_pos hf, a1]; simp, by rw [cutA, if_pos hf, a2]; simp⟩
    · exact .inr ⟨fun hi => by simpa using hn (by simpa using hi), by rw [cutH, if_pos hf, a1], by rw [cutA, if_pos hf, a2]; simp⟩

theorem cut_len (key : ByteArray) : ∀ ps : Prs, (cutB key ps).length + (cutA key ps).length ≤ ps.length
  | [] => by simp [cutB, cutA]
  | p :: r => by
    have := cut_len key r
    rw [cutB, cutA]
    split
    · simp; omega
    · split <;> simp

end Go.Proofs.YtlniokpekcoodaaGreatDoor

/-
  What is laid over others: what is stripped stays so.
-/
set_option linter.unusedVariables false
set_option linter.unusedSimpArgs false
namespace Go.Proofs.YtlniokpekcoodaaGreatDoor
open Go.RowKit

theorem overR_empty (m : Prs) : overR [] m = (m.filter fun p => decide (p.2.kind ≠ 0)).map fun p => (p.1, T.over T.nil p.2) := by
  induction m with
  | nil => rw [overR_nil]; rfl
  | cons p r ih =>
    rw [overR_cons]
    have e1 : cutB p.1 [] = [] := rfl
    have e2 : cutA p.1 [] = [] := rfl
    have e3 : cutH p.1 [] = T.nil := rfl
    rw [e1, e2, e3, ih, List.nil_append]
    by_cases h : p.2.kind = 0
    · rw [if_pos h, List.filter_cons_of_neg (by simp [h])]; rfl
    · rw [if_neg h, List.filter_cons_of_pos (by simp [h])]; rfl

theorem over_kind (t u : T) : (T.over t u).kind = u.kind := by
  obtain ⟨k, b, n, s, l, m⟩ := u
  by_cases h : k = 5
  · subst h; rw [over_map]; rfl
  · rw [over_other t b n s l m h]

/-- Pairs of what is stripped, and not nothing. -/
def Pl (ps : Prs) : Prop := ∀ p ∈ ps, p.2.kind ≠ 0 ∧ T.over T.nil p.2 = p.2
theorem Pl.same {ps : Prs} (h : Pl ps) : overR [] ps = ps := by
  rw [overR_empty]
  induction ps with
  | nil => rfl
  | cons p r ih =>
    obtain ⟨h1, h2⟩ := h p (by simp)
    rw [List.filter_cons_of_pos (by simp [h1]), List.map_cons, h2, ih fun q hq => h q (by simp [hq])]

theorem nil_pairs : T.nil.pairs = [] := rfl
theorem over_nil_map (b : Bool) (n : Int) (s : ByteArray) (l : List T) (m : Prs) : T.over T.nil (.mk 5 b n s l m) = .mk 5 false 0 ⟨#[]⟩ [] (overR [] m) := by rw [over_map, nil_pairs]

theorem Pl.of_empty {m : Prs} (h : ∀ p ∈ m, T.over T.nil (T.over T.nil p.2) = T.over T.nil p.2) : Pl (overR [] m) := by
  intro q hq
  rw [overR_empty] at hq
  obtain ⟨p, hp, rfl⟩ := List.mem_map.1 hq
  obtain ⟨hp1, hp2⟩ := List.mem_filter.1 hp
  refine ⟨?_, h p hp1⟩
  show (T.over T.nil p.2).kind ≠ 0
  rw [over_kind]
  simpa using hp2

/-- What is stripped is stripped. -/
theorem over_idem (u : T) : T.over T.nil (T.over T.nil u) = T.over T.nil u := by
  induction u using T.ind with
  | h k b n s l m hl hm =>
    by_cases h : k = 5
    · subst h
      rw [over_nil_map, over_nil_map, (Pl.of_empty hm).same]
    · rw [over_other _ b n s l m h, over_other _ b n s l m h]

/-- The pairs of what is stripped. -/
theorem Pl.of_plain {c : T} (h : T.over T.nil c = c) : Pl c.pairs := by
  obtain ⟨k, b, n, s, l, m⟩ := c
  by_cases h5 : k = 5
  · subst h5
    rw [over_nil_map] at h
    have e : overR [] m = m := by injection h
    have : (T.mk 5 b n s l m).pairs = overR [] m := by rw [T.pairs, if_pos rfl, e]
    rw [this]
    exact Pl.of_empty fun p hp => over_idem p.2
  · have : (T.mk k b n s l m).pairs = [] := by rw [T.pairs, if_neg h5]
    rw [this]
    intro p hp; cases hp

theorem cutB_mem {key : ByteArray} : ∀ {ps : Prs} {q : ByteArray × T}, q ∈ cutB key ps → q ∈ ps
  | [], q, h => by cases h
  | p :: r, q, h => by
    rw [cutB] at h
    split at h
    · rcases List.mem_cons.1 h with rfl | h
      · simp
      · exact List.mem_cons_of_mem _ (cutB_mem h)
    · cases h
theorem cutA_mem {key : ByteArray} : ∀ {ps : Prs} {q : ByteArray × T}, q ∈ cutA key ps → q ∈ ps
  | [], q, h => by cases h
  | p :: r, q, h => by
    rw [cutA] at h
    split at h
    · exact List.mem_cons_of_mem _ (cutA_mem h)
    · split at h
      · exact List.mem_cons_of_mem _ h
      · exact h
theorem cutH_mem (key : ByteArray) : ∀ ps : Prs, cutH key ps = T.nil ∨ ∃ q ∈ ps, q.1 = key ∧ q.2 = cutH key ps
  | [] => .inl rfl
  | p :: r => by
    rw [cutH]
    split
    · rcases cutH_mem key r with h | ⟨q, hq, h⟩
      · exact .inl h
      · exact .inr ⟨q, List.mem_cons_of_mem _ hq, h⟩
    · split
      · rename_i h; exact .inr ⟨p, by simp, h, rfl⟩
      · exact .inl rfl
theorem Pl.here {key : ByteArray} {ps : Prs} (h : Pl ps) : Pl (cutH key ps).pairs := by
  rcases cutH_mem key ps with e | ⟨q, hq, _, e⟩
  · rw [e, nil_pairs]; intro p hp; cases hp
  · rw [← e]; exact Pl.of_plain (h q hq).2

theorem Pl.overR {m : Prs} (ih : ∀ p ∈ m, ∀ t : T, Pl t.pairs → T.over T.nil (T.over t p.2) = T.over t p.2) : ∀ {rest : Prs}, Pl rest → Pl (overR rest m) := by
  induction m with
  | nil => intro rest h; rw [overR_nil]; exact h
  | cons p r ihr =>
    intro rest h
    rw [overR_cons]
    have h1 : Pl (Go.Proofs.YtlniokpekcoodaaGreatDoor.overR (cutA p.1 rest) r) := ihr (fun q hq => ih q (by simp [hq])) fun q hq => h q (cutA_mem hq)
    intro q hq
    rcases List.mem_append.1 hq with hq | hq
    · exact h q (cutB_mem hq)
    · rcases List.mem_append.1 hq with hq | hq
      · by_cases h0 : p.2.kind = 0
        · rw [if_pos h0] at hq; cases hq
        · rw [if_neg h0] at hq
          obtain rfl : q = (p.1, T.over (cutH p.1 rest) p.2) := by simpa using hq
          refine ⟨?_, ih p (by simp) _ h.here⟩
          show (T.over _ p.2).kind ≠ 0
          rw [over_kind]; exact h0
      · exact h1 q hq

/-- Over what is stripped nothing comes back. -/
theorem over_plain (u : T) : ∀ t : T, Pl t.pairs → T.over T.nil (T.over t u) = T.over t u := by
  induction u using T.ind with
  | h k b n s l m hl hm =>
    intro t ht
    by_cases h : k = 5
    · subst h
      rw [over_map, over_nil_map, (Pl.overR hm ht).same]
    · rw [over_other _ b n s l m h, over_other _ b n s l m h]

/-- An empty map is taken for nothing. -/
theorem over_pairs {t t' : T} (u : T) (h : t.pairs = t'.pairs) : T.over t u = T.over t' u := by
  obtain ⟨k, b, n, s, l, m⟩ := u
  by_cases h5 : k = 5
  · subst h5; rw [over_map, over_map, h]
  · rw [over_other _ b n s l m h5, over_other _ b n s l m h5]

end Go.Proofs.YtlniokpekcoodaaGreatDoor
