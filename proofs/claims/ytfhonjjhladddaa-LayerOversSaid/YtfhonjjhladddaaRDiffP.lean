/-
  The reference's Diff, on the trees alone: what its two loops have laid.
-/
import Derived.Test.YtfhonjjhladddaaTextsM
import Derived.Test.YtfhonjjhladddaaRPutW
set_option linter.unusedVariables false
set_option linter.unusedSimpArgs false
namespace Go.Proofs.Ytfhonjjhladddaa
open Go.RowKit

theorem putR_mem {key : ByteArray} {x : T} : ∀ {m : Prs} {q : ByteArray × T}, q ∈ putR key x m → q = (key, x) ∨ q ∈ m
  | [], q, h => by
    rw [putR] at h
    exact .inl (by simpa using h)
  | p :: r, q, h => by
    rcases putR_cases p key with ⟨h1, _⟩ | h1 | ⟨h1, h2⟩
    · rw [putR_lt h1] at h
      rcases List.mem_cons.1 h with rfl | h
      · exact .inr (by simp)
      · rcases putR_mem h with h | h
        · exact .inl h
        · exact .inr (List.mem_cons_of_mem _ h)
    · rw [putR_eq h1] at h
      rcases List.mem_cons.1 h with rfl | h
      · exact .inl rfl
      · exact .inr (List.mem_cons_of_mem _ h)
    · rw [putR_gt h1 h2] at h
      rcases List.mem_cons.1 h with rfl | h
      · exact .inl rfl
      · exact .inr h
theorem putR_asc {key : ByteArray} {x : T} : ∀ {m : Prs}, Asc m → Asc (putR key x m)
  | [], _ => by
    rw [putR]
    exact List.pairwise_singleton _ _
  | p :: r, h => by
    rcases putR_cases p key with ⟨h1, _⟩ | h1 | ⟨h1, h2⟩
    · rw [putR_lt h1]
      refine List.pairwise_cons.2 ⟨fun q hq => ?_, putR_asc h.tail⟩
      rcases putR_mem hq with rfl | hq
      · exact h1
      · exact h.head q hq
    · rw [putR_eq h1]
      refine List.pairwise_cons.2 ⟨fun q hq => ?_, h.tail⟩
      have := h.head q hq
      rw [h1] at this
      exact this
    · rw [putR_gt h1 h2]
      have h3 := ltS_total h1 h2
      refine List.pairwise_cons.2 ⟨fun q hq => ?_, h⟩
      rcases List.mem_cons.1 hq with rfl | hq
      · exact h3
      · exact ltS_trans h3 (h.head q hq)
theorem putR_len (key : ByteArray) (x : T) : ∀ m : Prs, (putR key x m).length ≤ m.length + 1
  | [] => by rw [putR]; simp
  | p :: r => by
    rcases putR_cases p key with ⟨h1, _⟩ | h1 | ⟨h1, h2⟩
    · rw [putR_lt h1]
      have := putR_len key x r
      simp only [List.length_cons]; omega
    · rw [putR_eq h1]; simp
    · rw [putR_gt h1 h2]; simp
theorem find_take (key : ByteArray) (m : Prs) (j : Nat) (hj : j < m.length) : findR key (m.take (j + 1)) = match findR key (m.take j) with | some x => some x | none => if m[j].1 = key then some m[j].2 else none := by
  rw [List.take_succ_eq_append_getElem hj, findR_append]
  cases findR key (m.take j) with
  | some x => rfl
  | none =>
    by_cases e : m[j].1 = key
    · rw [findR_here e]; simp [e]
    · rw [findR_skip e]; simp [e]; rfl
theorem take_none {m : Prs} (h : Asc m) (j : Nat) (hj : j < m.length) : findR m[j].1 (m.take j) = none := findR_none fun q hq e => by
  obtain ⟨i, hi, rfl⟩ := List.getElem_of_mem hq
  rw [List.length_take] at hi
  rw [List.getElem_take] at e
  have := List.pairwise_iff_getElem.1 h i j (by omega) hj (by omega)
  exact ltS_nee this e
theorem at_some {m : Prs} (h : Asc m) (j : Nat) (hj : j < m.length) : findR m[j].1 m = some m[j].2 := findR_at m j hj (fun i hi hij e => ltS_nee (List.pairwise_iff_getElem.1 h i j (by omega) hj (by omega)) e) rfl

/-- Behind j rounds of the first loop. -/
structure RD1 (m1 m2 : Prs) (j : Nat) (o : Prs) : Prop where
  asc : Asc o
  len : o.length ≤ j
  find : ∀ key, findR key o = (findR key (m1.take j)).bind fun _ => if (findR key m2).isSome then none else some T.nil
theorem RD1.start (m1 m2 : Prs) : RD1 m1 m2 0 [] := ⟨List.Pairwise.nil, Nat.le_refl _, fun key => rfl⟩
theorem RD1.skip {m1 m2 : Prs} {j : Nat} {o : Prs} (h : RD1 m1 m2 j o) (hj : j < m1.length) (hs : (findR m1[j].1 m2).isSome = true) : RD1 m1 m2 (j + 1) o :=
  ⟨h.asc, Nat.le_succ_of_le h.len, fun key => by
    rw [h.find key, find_take key m1 j hj]
    cases hf : findR key (m1.take j) with
    | some x => rfl
    | none =>
      by_cases e : m1[j].1 = key
      · subst e; simp [hs]
      · simp [e]⟩
theorem RD1.put {m1 m2 : Prs} {j : Nat} {o : Prs} (h : RD1 m1 m2 j o) (hj : j < m1.length) (hs : (findR m1[j].1 m2).isSome = false) : RD1 m1 m2 (j + 1) (putR m1[j].1 T.nil o) :=
  ⟨putR_asc h.asc, Nat.le_trans (putR_len _ _ _) (Nat.succ_le_succ h.len), fun key => by
    rw [find_take key m1 j hj]
    by_cases e : m1[j].1 = key
    · subst e
      rw [putR_find]
      cases hf : findR m1[j].1 (m1.take j) with
      | some x => simp [hs]
      | none => simp [hs]
    · rw [putR_other _ _ _ (fun e2 => e e2.symm), h.find key]
      cases hf : findR key (m1.take j) with
      | some x => rfl
      | none => simp [e]⟩

/-- .. of the second one. -/
structure RD2 (m1 m2 : Prs) (j : Nat) (o : Prs) : Prop where
  asc : Asc o
  len : o.length ≤ m1.length + j
  find : ∀ key, findR key o = match findR key (m2.take j) with | some x => diffAt (findR key m1) (some x) | none => if (findR key m2).isSome then none else (findR key m1).map fun _ => T.nil
theorem RD1.done {m1 m2 o : Prs} (h : RD1 m1 m2 m1.length o) : RD2 m1 m2 0 o :=
  ⟨h.asc, h.len, fun key => by
    rw [h.find key, List.take_length, List.take_zero]
    show _ = if (findR key m2).isSome then none else (findR key m1).map fun _ => T.nil
    cases findR key m1 with
    | none => simp
    | some x => cases (findR key m2).isSome <;> rfl⟩
theorem RD2.skip {m1 m2 : Prs} {j : Nat} {o : Prs} (h : RD2 m1 m2 j o) (ha : Asc m2) (hj : j < m2.length) (hc : diffAt (findR m2[j].1 m1) (some m2[j].2) = none) : RD2 m1 m2 (j + 1) o :=
  ⟨h.asc, Nat.le_succ_of_le h.len, fun key => by
    rw [h.find key, find_take key m2 j hj]
    by_cases e : m2[j].1 = key
    · subst e
      rw [take_none ha j hj, at_some ha j hj]
      simp [hc]
    · cases hf : findR key (m2.take j) with
      | some x => rfl
      | none => simp [e]⟩
theorem RD2.put {m1 m2 : Prs} {j : Nat} {o : Prs} {d : T} (h : RD2 m1 m2 j o) (ha : Asc m2) (hj : j < m2.length) (hc : diffAt (findR m2[j].1 m1) (some m2[j].2) = some d) : RD2 m1 m2 (j + 1) (putR m2[j].1 d o) :=
  ⟨putR_asc h.asc, by have := putR_len m2[j].1 d o; have := h.len; omega, fun key => by
    rw [find_take key m2 j hj]
    by_cases e : m2[j].1 = key
    · subst e
      rw [putR_find, take_none ha j hj]
      simp [hc]
    · rw [putR_other _ _ _ (fun e2 => e e2.symm), h.find key]
      cases hf : findR key (m2.take j) with
      | some x => rfl
      | none => simp [e]⟩
theorem RD2.done {m1 m2 o : Prs} (h : RD2 m1 m2 m2.length o) (h1 : Asc m1) (h2 : Asc m2) : o = diffR m1 m2 :=
  ext_find h.asc (diffR_asc h2 h1) fun key => by
    rw [h.find key, List.take_length, diffR_find key _ _ h2 h1]
    cases findR key m2 with
    | some x => rfl
    | none => simp [diffAt]

theorem diffAt_maps {y x : T} (h : y.kind = 5 ∧ x.kind = 5) (hn : diffAt (some y) (some x) ≠ none) : diffAt (some y) (some x) = some (T.diff y x) := by
  unfold diffAt chg at hn ⊢
  simp only [Option.getD_some] at hn ⊢
  rw [if_pos h] at hn ⊢
  by_cases hz : (T.diff y x).pairs.length = 0
  · rw [if_pos hz] at hn; exact absurd rfl hn
  · rw [if_neg hz]
theorem diffAt_other {was : Option T} {x : T} (h : ¬ ((was.getD T.nil).kind = 5 ∧ x.kind = 5)) (hn : diffAt was (some x) ≠ none) : diffAt was (some x) = some x := by
  unfold diffAt chg at hn ⊢
  dsimp only at hn ⊢
  rw [if_neg h] at hn ⊢
  by_cases hz : T.cmp (was.getD T.nil) x = 0
  · rw [if_pos hz] at hn; exact absurd rfl hn
  · rw [if_neg hz]
theorem Str.asc {p : T} (h : Str p) : Asc p.pairs := (map_parts h.parts h.kind).2.1
theorem Str.shape {p : T} (h : Str p) : p = mk5 p.pairs := (map_parts h.parts h.kind).1
theorem Str.sub {p : T} (h : Str p) {key : ByteArray} {x : T} (hx : findR key p.pairs = some x) (h5 : x.kind = 5) : Str x := by
  obtain ⟨q, hq, _, rfl⟩ := findR_mem hx
  have hs := (h.pl q hq).2
  exact ⟨((map_parts h.parts h.kind).2.2 q hq).2, h5, Pl.of_plain hs, hs⟩
/-- What a round of the second loop finds. -/
theorem diff_at {p q : T} (hp : Str p) (hq : Str q) (j : Nat) (hj : j < q.pairs.length) : diffAt (findR q.pairs[j].1 p.pairs) (some q.pairs[j].2) = none ↔ findR q.pairs[j].1 p.pairs = some q.pairs[j].2 := by
  have h := (misses_at hp hq q.pairs[j].1).2
  rw [T.get_find, T.get_find, at_some hq.asc j hj] at h
  exact h

end Go.Proofs.Ytfhonjjhladddaa
