/-
  The reference's Diff, on the trees alone: what its two loops have laid.
-/
import Derived.Test.YtfhonjjhladddaaLawLastM
import Derived.Test.YtfhonjjhladddaaRPutW
import Derived.Test.YtfhonjjhladddaaStabP
set_option linter.unusedVariables false
set_option linter.unusedSimpArgs false
namespace Go.Proofs.Ytfhonjjhladddaa
open Go.RowKit

theorem putR_mem {key : ByteArray} {x : T} : ∀ {m : Prs} {q : ByteArray × T}, q ∈ putR key x m → q = (key, x) ∨ q ∈ m
  | [], q, h => by
    rw [putR] at h
    exact .inl (by simpa using h)
  | p :: r, q, h => by
    rcases putR_cases p key with ⟨h1, _⟩ | h1 | ⟨h1, h2⟩
    · rw [putR_lt h1] at h
      rcases List.mem_cons.1 h with rfl | h
      · exact .inr (by simp)
      · rcases putR_mem h with h | h
        · exact .inl h
        · exact .inr (List.mem_cons_of_mem _ h)
    · rw [putR_eq h1] at h
      rcases List.mem_cons.1 h with rfl | h
      · exact .inl rfl
      · exact .inr (List.mem_cons_of_mem _ h)
    · rw [putR_gt h1 h2] at h
      rcases List.mem_cons.1 h with rfl | h
      · exact .inl rfl
      · exact .inr h
theorem putR_asc {key : ByteArray} {x : T} : ∀ {m : Prs}, Asc m → Asc (putR key x m)
  | [], _ => by
    rw [putR]
    exact List.pairwise_singleton _ _
  | p :: r, h => by
    rcases putR_cases p key with ⟨h1, _⟩ | h1 | ⟨h1, h2⟩
    · rw [putR_lt h1]
      refine List.pairwise_cons.2 ⟨fun q hq => ?_, putR_asc h.tail⟩
      rcases putR_mem hq with rfl | hq
      · exact h1
      · exact h.head q hq
    · rw [putR_eq h1]
      refine List.pairwise_cons.2 ⟨fun q hq => ?_, h.tail⟩
      have := h.head q hq
      rw [h1] at this
      exact this
    · rw [putR_gt h1 h2]
      have h3 := ltS_total h1 h2
      refine List.pairwise_cons.2 ⟨fun q hq => ?_, h⟩
      rcases List.mem_cons.1 hq with rfl | hq
      · exact h3
      · exact ltS_trans h3 (h.head q hq)
theorem putR_more (key : ByteArray) (x : T) : ∀ m : Prs, (putR key x m).length ≤ m.length + 1
  | [] => by rw [putR]; simp
  | p :: r => by
    rcases putR_cases p key with ⟨h1, _⟩ | h1 | ⟨h1, h2⟩
    · rw [putR_lt h1]
      have := putR_more key x r
      simp only [List.length_cons]; omega
    · rw [putR_eq h1]; simp
    · rw [putR_gt h1 h2]; simp
theorem find_take (key : ByteArray) (m : Prs) (j : Nat) (hj : j < m.length) : findR key (m.take (j + 1)) = match findR key (m.take j) with | some x => some x | none => if m[j].1 = key then some m[j].2 else none := by
  rw [List.take_succ_eq_append_getElem hj, findR_append]
  cases findR key (m.take j) with
  | some x => rfl
  | none =>
    by_cases e : m[j].1 = key
    · rw [findR_here e]; simp [e]
    · rw [findR_skip e]; simp [e]; rfl
theorem take_none {m : Prs} (h : Asc m) (j : Nat) (hj : j < m.length) : findR m[j].1 (m.take j) = none := findR_none fun q hq e => by
  obtain ⟨i, hi, rfl⟩ := List.getElem_of_mem hq
  rw [List.length_take] at hi
  rw [List.getElem_take] at e
  have := List.pairwise_iff_getElem.1 h i j (by omega) hj (by omega)
  exact ltS_nee this e
theorem at_some {m : Prs} (h : Asc m) (j : Nat) (hj : j < m.length) : findR m[j].1 m = some m[j].2 := findR_at m j hj (fun i hi hij e => ltS_nee (List.pairwise_iff_getElem.1 h i j (by omega) hj (by omega)) e) rfl

/-- Behind j rounds of the first loop. -/
structure RD1 (m1 m2 : Prs) (j : Nat) (o : Prs) : Prop where
  asc : Asc o
  len : o.length ≤ j
  find : ∀ key, findR key o = (findR key (m1.take j)).bind fun _ => if (findR key m2).isSome then none else some T.nil
theorem RD1.start (m1 m2 : Prs) : RD1 m1 m2 0 [] := ⟨List.Pairwise.nil, Nat.le_refl _, fun key => rfl⟩
theorem RD1.skip {m1 m2 : Prs} {j : Nat} {o : Prs} (h : RD1 m1 m2 j o) (hj : j < m1.length) (hs : (findR m1[j].1 m2).isSome = true) : RD1 m1 m2 (j + 1) o :=
  ⟨h.asc, Nat.le_succ_of_le h.len, fun key => by
    rw [h.find key, find_take key m1 j hj]
    cases hf : findR key (m1.take j) with
    | some x => rfl
    | none =>
      by_cases e : m1[j].1 = key
      · subst e; simp [hs]
      · simp [e]⟩
theorem RD1.put {m1 m2 : Prs} {j : Nat} {o : Prs} (h : RD1 m1 m2 j o) (hj : j < m1.length) (hs : (findR m1[j].1 m2).isSome = false) : RD1 m1 m2 (j + 1) (putR m1[j].1 T.nil o) :=
  ⟨putR_asc h.asc, Nat.le_trans (putR_more _ _ _) (Nat.succ_le_succ h.len), fun key => by
    rw [find_take key m1 j hj]
    by_cases e : m1[j].1 = key
    · subst e
      rw [putR_find]
      cases hf : findR m1[j].1 (m1.take j) with
      | some x => simp [hs]
      | none => simp [hs]
    · rw [putR_other _ _ _ (fun e2 => e e2.symm), h.find key]
      cases hf : findR key (m1.take j) with
      | some x => rfl
      | none => simp [e]⟩

/-- .. of the second one. -/
structure RD2 (m1 m2 : Prs) (j : Nat) (o : Prs) : Prop where
  asc : Asc o
  len : o.length ≤ m1.length + j
  find : ∀ key, findR key o = match findR key (m2.take j) with | some x => diffAt (findR key m1) (some x) | none => if (findR key m2).isSome then none else (findR key m1).map fun _ => T.nil
theorem RD1.done {m1 m2 o : Prs} (h : RD1 m1 m2 m1.length o) : RD2 m1 m2 0 o :=
  ⟨h.asc, h.len, fun key => by
    rw [h.find key, List.take_length, List.take_zero]
    show _ = if (findR key m2).isSome then none else (findR key m1).map fun _ => T.nil
    cases findR key m1 with
    | none => simp
    | some x => cases (findR key m2).isSome <;> rfl⟩
theorem RD2.skip {m1 m2 : Prs} {j : Nat} {o : Prs} (h : RD2 m1 m2 j o) (ha : Asc m2) (hj : j < m2.length) (hc : diffAt (findR m2[j].1 m1) (some m2[j].2) = none) : RD2 m1 m2 (j + 1) o :=
  ⟨h.asc, Nat.le_succ_of_le h.len, fun key => by
    rw [h.find key, find_take key m2 j hj]
    by_cases e : m2[j].1 = key
    · subst e
      rw [take_none ha j hj, at_some ha j hj]
      simp [hc]
    · cases hf : findR key (m2.take j) with
      | some x => rfl
      | none => simp [e]⟩
theorem RD2.put {m1 m2 : Prs} {j : Nat} {o : Prs} {d : T} (h : RD2 m1 m2 j o) (ha : Asc m2) (hj : j < m2.length) (hc : diffAt (findR m2[j].1 m1) (some m2[j].2) = some d) : RD2 m1 m2 (j + 1) (putR m2[j].1 d o) :=
  ⟨putR_asc h.asc, by have := putR_more m2[j].1 d o; have := h.len; omega, fun key => by
    rw [find_take key m2 j hj]
    by_cases e : m2[j].1 = key
    · subst e
      rw [putR_find, take_none ha j hj]
      simp [hc]
    · rw [putR_other _ _ _ (fun e2 => e e2.symm), h.find key]
      cases hf : findR key (m2.take j) with
      | some x => rfl
      | none => simp [e]⟩
theorem RD2.done {m1 m2 o : Prs} (h : RD2 m1 m2 m2.length o) (h1 : Asc m1) (h2 : Asc m2) : o = diffR m1 m2 :=
  ext_find h.asc (diffR_asc h2 h1) fun key => by
    rw [h.find key, List.take_length, diffR_find key _ _ h2 h1]
    cases findR key m2 with
    | some x => rfl
    | none => simp [diffAt]

theorem diffAt_maps {y x : T} (h : y.kind = 5 ∧ x.kind = 5) (hn : diffAt (some y) (some x) ≠ none) : diffAt (some y) (some x) = some (T.diff y x) := by
  unfold diffAt chg at hn ⊢
  simp only [Option.getD_some] at hn ⊢
  rw [if_pos h] at hn ⊢
  by_cases hz : (T.diff y x).pairs.length = 0
  · rw [if_pos hz] at hn; exact absurd rfl hn
  · rw [if_neg hz]
theorem diffAt_other {was : Option T} {x : T} (h : ¬ ((was.getD T.nil).kind = 5 ∧ x.kind = 5)) (hn : diffAt was (some x) ≠ none) : diffAt was (some x) = some x := by
  unfold diffAt chg at hn ⊢
  dsimp only at hn ⊢
  rw [if_neg h] at hn ⊢
  by_cases hz : T.cmp (was.getD T.nil) x = 0
  · rw [if_pos hz] at hn; exact absurd rfl hn
  · rw [if_neg hz]
theorem Str.asc {p : T} (h : Str p) : Asc p.pairs := (map_parts h.parts h.kind).2.1
theorem Str.shape {p : T} (h : Str p) : p = mk5 p.pairs := (map_parts h.parts h.kind).1
theorem Str.sub {p : T} (h : Str p) {key : ByteArray} {x : T} (hx : findR key p.pairs = some x) (h5 : x.kind = 5) : Str x := by
  obtain ⟨q, hq, _, rfl⟩ := findR_mem hx
  have hs := (h.pl q hq).2
  exact ⟨((map_parts h.parts h.kind).2.2 q hq).2, h5, Pl.of_plain hs, hs⟩
/-- What a round of the second loop finds. -/
theorem diff_at {p q : T} (hp : Str p) (hq : Str q) (j : Nat) (hj : j < q.pairs.length) : diffAt (findR q.pairs[j].1 p.pairs) (some q.pairs[j].2) = none ↔ findR q.pairs[j].1 p.pairs = some q.pairs[j].2 := by
  have h := (misses_at hp hq q.pairs[j].1).2
  rw [T.get_find, T.get_find, at_some hq.asc j hj] at h
  exact h

end Go.Proofs.Ytfhonjjhladddaa

/-
  What stands behind a stable sort of pairs of which the last of each key is kept: all of them put, one by one.
-/
set_option linter.unusedVariables false
set_option linter.unusedSimpArgs false
namespace Go.Proofs.Ytfhonjjhladddaa
open Go.RowKit Go.Sort

/-- Pairs, put one by one. -/
def putAll (ps : Prs) : Prs := ps.foldl (fun m p => putR p.1 p.2 m) []
theorem putAll_take (ps : Prs) (j : Nat) (hj : j < ps.length) : putAll (ps.take (j + 1)) = putR ps[j].1 ps[j].2 (putAll (ps.take j)) := by
  unfold putAll
  rw [List.take_succ_eq_append_getElem hj, List.foldl_append]
  rfl
theorem putAll_asc : ∀ (ps : Prs) (j : Nat), Asc (putAll (ps.take j))
  | ps, 0 => by rw [List.take_zero]; exact List.Pairwise.nil
  | ps, j + 1 => by
    by_cases hj : j < ps.length
    · rw [putAll_take ps j hj]
      exact putR_asc (putAll_asc ps j)
    · have h := putAll_asc ps j
      rw [List.take_of_length_le (by omega)] at h ⊢
      exact h
theorem putAll_len : ∀ (ps : Prs) (j : Nat), (putAll (ps.take j)).length ≤ j
  | ps, 0 => by rw [List.take_zero]; exact Nat.le_refl _
  | ps, j + 1 => by
    have h := putAll_len ps j
    by_cases hj : j < ps.length
    · rw [putAll_take ps j hj]
      have := putR_more ps[j].1 ps[j].2 (putAll (ps.take j))
      omega
    · rw [List.take_of_length_le (by omega)] at h ⊢
      omega
theorem putAll_none {ps : Prs} {key : ByteArray} (h : ∀ p ∈ ps, p.1 ≠ key) : ∀ j, findR key (putAll (ps.take j)) = none
  | 0 => by rw [List.take_zero]; rfl
  | j + 1 => by
    have ih := putAll_none h j
    by_cases hj : j < ps.length
    · rw [putAll_take ps j hj, putR_other _ _ _ (fun e => h _ (List.getElem_mem hj) e.symm)]
      exact ih
    · rw [List.take_of_length_le (by omega)] at ih ⊢
      exact ih
theorem putAll_last {ps : Prs} {key : ByteArray} {t : Nat} (ht : t < ps.length) (hk : ps[t].1 = key) (h : ∀ i (hi : i < ps.length), t < i → ps[i].1 ≠ key) : ∀ j, t < j → findR key (putAll (ps.take j)) = some ps[t].2
  | 0, h0 => absurd h0 (by omega)
  | j + 1, h0 => by
    by_cases hj : j < ps.length
    · rw [putAll_take ps j hj]
      rcases Nat.lt_or_ge t j with h1 | h1
      · rw [putR_other _ _ _ (fun e => h j hj h1 e.symm)]
        exact putAll_last ht hk h j h1
      · obtain rfl : t = j := by omega
        rw [hk, putR_find]
    · have ih := putAll_last ht hk h j (by omega)
      rw [List.take_of_length_le (by omega)] at ih ⊢
      exact ih

/-- What is kept of sorted pairs. -/
structure Kp (S : Prs) (j : Nat) : Prop where
  asc : Asc (keepTo (·.1) S j)
  mem : ∀ q ∈ keepTo (·.1) S j, q ∈ S
  below : ∀ h : j < S.length, ∀ q ∈ keepTo (·.1) S j, ltS q.1 S[j].1 = true
  has : ∀ i (hi : i < S.length), i < j → (∀ k (hk : k < S.length), i < k → S[k].1 ≠ S[i].1) → S[i] ∈ keepTo (·.1) S j
theorem kp_all {S : Prs} (hs : ∀ i j (hi : i < S.length) (hj : j < S.length), i < j → S[i].1 = S[j].1 ∨ ltS S[i].1 S[j].1 = true) : ∀ j, j ≤ S.length → Kp S j
  | 0, _ => ⟨List.Pairwise.nil, fun q hq => (by cases hq), fun _ q hq => (by cases hq), fun i _ h => absurd h (by omega)⟩
  | j + 1, hj => by
    have ih := kp_all hs j (by omega)
    have hjl : j < S.length := hj
    by_cases hk : ∀ h : j + 1 < S.length, S[j + 1].1 ≠ S[j].1
    · rw [show Kp S (j + 1) ↔ Kp S (j + 1) from Iff.rfl]
      have e := keepTo_keep (fun p : ByteArray × T => p.1) S j hjl hk
      refine ⟨?_, ?_, ?_, ?_⟩
      · rw [e]
        refine asc_append ih.asc (List.pairwise_singleton _ _) fun x hx y hy => ?_
        obtain rfl : y = S[j] := by simpa using hy
        exact ih.below hjl x hx
      · rw [e]
        intro q hq
        rcases List.mem_append.1 hq with hq | hq
        · exact ih.mem q hq
        · obtain rfl : q = S[j] := by simpa using hq
          exact List.getElem_mem _
      · intro h
        rw [e]
        have hlt : ltS S[j].1 S[j + 1].1 = true := by
          rcases hs j (j + 1) hjl h (by omega) with h1 | h1
          · exact absurd h1.symm (hk h)
          · exact h1
        intro q hq
        rcases List.mem_append.1 hq with hq | hq
        · exact ltS_trans (ih.below hjl q hq) hlt
        · obtain rfl : q = S[j] := by simpa using hq
          exact hlt
      · intro i hi hij hl
        rw [e]
        rcases Nat.lt_or_ge i j with h1 | h1
        · exact List.mem_append_left _ (ih.has i hi h1 hl)
        · obtain rfl : i = j := by omega
          exact List.mem_append_right _ (by simp)
    · have h1 : j + 1 < S.length := Classical.byContradiction fun hc => hk fun h1 => absurd h1 hc
      have h2 : S[j + 1].1 = S[j].1 := Classical.byContradiction fun hc => hk fun h1 => hc
      have e := keepTo_skip (fun p : ByteArray × T => p.1) S j h1 h2
      refine ⟨by rw [e]; exact ih.asc, by rw [e]; exact ih.mem, fun h => ?_, fun i hi hij hl => ?_⟩
      · rw [e]
        intro q hq
        rw [h2]
        exact ih.below hjl q hq
      · rw [e]
        rcases Nat.lt_or_ge i j with h3 | h3
        · exact ih.has i hi h3 hl
        · obtain rfl : i = j := by omega
          exact absurd h2 (hl (i + 1) h1 (by omega))

theorem asc_mem {m : Prs} (h : Asc m) {q : ByteArray × T} (hq : q ∈ m) : findR q.1 m = some q.2 := by
  obtain ⟨i, hi, rfl⟩ := List.getElem_of_mem hq
  exact at_some h i hi
/-- There is a last one. -/
theorem last_ex {α : Type} (P : α → Prop) : ∀ l : List α, (∃ x ∈ l, P x) → ∃ (i : Nat) (hi : i < l.length), P l[i] ∧ ∀ k (hk : k < l.length), i < k → ¬ P l[k]
  | [], h => by obtain ⟨x, hx, _⟩ := h; cases hx
  | a :: r, h => by
    by_cases hr : ∃ x ∈ r, P x
    · obtain ⟨i, hi, h1, h2⟩ := last_ex P r hr
      refine ⟨i + 1, by simpa using hi, by simpa using h1, fun k hk hik => ?_⟩
      obtain ⟨k', rfl⟩ : ∃ k', k = k' + 1 := ⟨k - 1, by omega⟩
      simpa using h2 k' (by simpa using hk) (by omega)
    · refine ⟨0, by simp, ?_, fun k hk hik hp => ?_⟩
      · obtain ⟨x, hx, hp⟩ := h
        rcases List.mem_cons.1 hx with rfl | hx
        · exact hp
        · exact absurd ⟨x, hx, hp⟩ hr
      · obtain ⟨k', rfl⟩ : ∃ k', k = k' + 1 := ⟨k - 1, by omega⟩
        exact hr ⟨_, List.getElem_mem (by simpa using hk), by simpa using hp⟩

/-- Pairs with their places, sorted, the last of each key kept: all put, one by one. -/
theorem keep_putAll {Z D : List E} {ps : Prs} (hz : Srt Z) (hp : Z.Perm D) (hl : D.length = ps.length) (hd : ∀ i (hi : i < D.length) (h2 : i < ps.length), strip D[i].1 = ps[i] ∧ D[i].2 = i) : keepTo (·.1) (Z.map fun e => strip e.1) ps.length = putAll ps := by
  have lz : Z.length = ps.length := hp.length_eq.trans hl
  have sl : (Z.map fun e => strip e.1).length = ps.length := by rw [List.length_map]; exact lz
  have kz : ∀ i (hi : i < (Z.map fun e => strip e.1).length) (h2 : i < Z.length), (Z.map fun e => strip e.1)[i].1 = kE Z[i] := fun i hi h2 => by rw [List.getElem_map]; rfl
  have hK := kp_all (S := Z.map fun e => strip e.1) (fun i j hi hj hij => by
    rw [List.length_map] at hi hj
    have h := hz.at hi hj hij
    rw [kz i _ hi, kz j _ hj]
    rcases h with h | ⟨h, _⟩
    · exact .inr h
    · exact .inl h) ps.length (by omega)
  have ha : Asc (putAll ps) := by
    have := putAll_asc ps ps.length
    rwa [List.take_length] at this
  refine ext_find hK.asc ha fun key => ?_
  by_cases hk : ∃ x ∈ Z, kE x = key
  · obtain ⟨i, hi, hki, hla⟩ := last_ex (fun x => kE x = key) Z hk
    have hm : (Z.map fun e => strip e.1)[i]'(by rw [List.length_map]; exact hi) ∈ keepTo (·.1) (Z.map fun e => strip e.1) ps.length := hK.has i _ (by omega) fun k hk hik => by
      rw [List.length_map] at hk
      rw [kz k _ hk, kz i _ hi, hki]
      exact hla k hk hik
    have h1 := asc_mem hK.asc hm
    rw [kz i _ hi, hki] at h1
    obtain ⟨t, ht, et⟩ := List.getElem_of_mem (hp.mem_iff.1 (List.getElem_mem hi))
    obtain ⟨d1, d2⟩ := hd t ht (by omega)
    have kt : (ps[t]'(by omega)).1 = key := by
      rw [← d1, et]; exact hki
    have h2 := putAll_last (ps := ps) (t := t) (by omega) kt (fun u hu htu e => by
      have hu2 : u < D.length := by omega
      obtain ⟨e1, e2⟩ := hd u hu2 hu
      obtain ⟨v, hv, ev⟩ := List.getElem_of_mem (hp.mem_iff.2 (List.getElem_mem hu2))
      have kv : kE Z[v] = key := by
        rw [ev]
        show (strip D[u].1).1 = key
        rw [e1]; exact e
      rcases Nat.lt_or_ge i v with h3 | h3
      · exact hla v hv h3 kv
      · rcases Nat.lt_or_ge v i with h4 | h4
        · have h5 := hz.at hv hi h4
          rcases h5 with h5 | ⟨_, h5⟩
          · rw [kv, hki, ltS_irr] at h5; cases h5
          · rw [ev, ← et, e2, d2] at h5; omega
        · obtain rfl : i = v := by omega
          rw [← ev] at e2
          rw [et] at d2
          omega) ps.length (by omega)
    rw [List.take_length] at h2
    rw [h1, h2, List.getElem_map, ← et, d1]
  · have h1 : findR key (keepTo (·.1) (Z.map fun e => strip e.1) ps.length) = none := findR_none fun q hq e => by
      obtain ⟨x, hx, rfl⟩ := List.mem_map.1 (hK.mem q hq)
      exact hk ⟨x, hx, e⟩
    have h2 := putAll_none (ps := ps) (key := key) (fun p hpm e => by
      obtain ⟨t, ht, rfl⟩ := List.getElem_of_mem hpm
      have ht2 : t < D.length := by omega
      obtain ⟨d1, d2⟩ := hd t ht2 ht
      refine hk ⟨D[t], hp.mem_iff.2 (List.getElem_mem ht2), ?_⟩
      show (strip D[t].1).1 = key
      rw [d1]; exact e) ps.length
    rw [List.take_length] at h2
    rw [h1, h2]

end Go.Proofs.Ytfhonjjhladddaa
