/-
  The leaves of a value of which one is pruned, or dropped: pure.
-/
import Derived.Test.YtfmlhdkodnbfaaaLeafPM
import Derived.Test.YtfmlhdkodnbfaaaPathSM
set_option linter.unusedVariables false
set_option linter.unusedSimpArgs false
namespace Go.Proofs.Ytfmlhdkodnbfaaa
open Go.RowKit Go.Sort

/-- The leaves of a map's pairs. -/
def flatM (m : Prs) : Lvs := (m.map fun p => (leavesT p.2).map fun q => (p.1 :: q.1, q.2)).flatten
theorem leaves_flat {t : T} (h : t.map ≠ []) : leavesT t = flatM t.map := by
  obtain ⟨k, b, n, s, l, m⟩ := t
  rw [leavesT, if_neg (show ¬ m = [] from h)]
  rfl
theorem leaves_one {t : T} (h : t.map = []) : leavesT t = [([], t)] := by
  obtain ⟨k, b, n, s, l, m⟩ := t
  rw [leavesT, if_pos (show m = [] from h)]
theorem mem_flatM {m : Prs} {q : List ByteArray × T} : q ∈ flatM m ↔ ∃ p ∈ m, ∃ y ∈ leavesT p.2, q = (p.1 :: y.1, y.2) := by
  unfold flatM
  rw [List.mem_flatten]
  constructor
  · rintro ⟨l, hl, hq⟩
    obtain ⟨p, hp, rfl⟩ := List.mem_map.1 hl
    obtain ⟨y, hy, rfl⟩ := List.mem_map.1 hq
    exact ⟨p, hp, y, hy, rfl⟩
  · rintro ⟨p, hp, y, hy, rfl⟩
    exact ⟨_, List.mem_map.2 ⟨p, hp, rfl⟩, List.mem_map.2 ⟨y, hy, rfl⟩⟩
theorem find_asc : ∀ {m : Prs}, Asc m → ∀ {p : ByteArray × T}, p ∈ m → findR p.1 m = some p.2
  | [], _, p, hp => by cases hp
  | x :: r, h, p, hp => by
    rcases List.mem_cons.1 hp with rfl | hp
    · exact findR_here rfl
    · have hne : x.1 ≠ p.1 := fun e => by
        have := h.head p hp
        rw [e, ltS_irr] at this
        cases this
      rw [findR_skip hne]
      exact find_asc h.tail hp
theorem Fine.mem {t : T} (h : Fine t) {p : ByteArray × T} (hp : p ∈ t.map) : findR p.1 t.map = some p.2 := find_asc (by have := h.asc; rwa [← h.pairs] at this) hp
theorem Fine.part {t : T} (h : Fine t) {p : ByteArray × T} (hp : p ∈ t.map) : p.2.parts = 0 := h.each p (by rw [← h.pairs]; exact hp)
theorem at_leaf (t : T) : t.parts = 0 → ∀ q ∈ leavesT t, atL q.1 t = some q.2 := by
  induction t using T.ind with
  | _ k b n s l m hl hm =>
    intro hp q hq
    have hf := fine_of hp
    by_cases h : m = []
    · rw [leaves_one (show (T.mk k b n s l m).map = [] from h)] at hq
      obtain rfl := List.mem_singleton.1 hq
      rfl
    · rw [leaves_flat (show (T.mk k b n s l m).map ≠ [] from h)] at hq
      obtain ⟨p, hpm, y, hy, rfl⟩ := mem_flatM.1 hq
      rw [at_cons hf (hf.mem hpm)]
      exact hm p hpm (hf.part hpm) y hy
theorem begins_ne {k k' : ByteArray} (h : k ≠ k') (l m : List ByteArray) : beginsB (k :: l) (k' :: m) = false := by
  unfold beginsB sameS
  simp [h]
/-- No leaf's path begins as another one's does. -/
theorem leaves_apart (t : T) : t.parts = 0 → (leavesT t).Pairwise fun a b => beginsB a.1 b.1 = false ∧ beginsB b.1 a.1 = false := by
  induction t using T.ind with
  | _ k b n s l m hl hm =>
    intro hp
    have hf := fine_of hp
    by_cases h : m = []
    · rw [leaves_one (show (T.mk k b n s l m).map = [] from h)]
      exact List.pairwise_singleton _ _
    · rw [leaves_flat (show (T.mk k b n s l m).map ≠ [] from h)]
      have asc : Asc m := by have := hf.asc; rwa [← hf.pairs] at this
      show (flatM m).Pairwise _
      unfold flatM
      rw [List.pairwise_flatten]
      refine ⟨fun l' hl' => ?_, ?_⟩
      · obtain ⟨p, hpm, rfl⟩ := List.mem_map.1 hl'
        rw [List.pairwise_map]
        exact (hm p hpm (hf.part hpm)).imp fun {a b} h => by rw [begins_cons, begins_cons]; exact h
      · rw [List.pairwise_map]
        refine List.Pairwise.imp (fun {p q} hpq x hx y hy => ?_) asc
        obtain ⟨x', _, rfl⟩ := List.mem_map.1 hx
        obtain ⟨y', _, rfl⟩ := List.mem_map.1 hy
        have hne : p.1 ≠ q.1 := fun e => by rw [e, ltS_irr] at hpq; cases hpq
        exact ⟨begins_ne hne _ _, begins_ne hne.symm _ _⟩
theorem begins_self (l : List ByteArray) : beginsB l l = true := by simp [beginsB, sameS]
theorem pairs_nil {t : T} (h : t.map = []) : t.pairs = [] := by
  obtain ⟨k, b, n, s, l, m⟩ := t
  rw [T.pairs]
  split
  · exact h
  · rfl
theorem at_some_map {l : List ByteArray} {t u : T} (h : atL l t = some u) (hl : l ≠ []) : t.map ≠ [] := fun e => by
  cases l with
  | nil => exact hl rfl
  | cons k r =>
    rw [atL, T.get_find, pairs_nil e] at h
    cases h
theorem pruneL_one (k : ByteArray) (t : T) : pruneL [k] t = t.drop k := rfl
theorem leaf_step {k : ByteArray} {r : List ByteArray} {x : T} {t : T} (h : (k :: r, x) ∈ leavesT t) : t.map ≠ [] ∧ ∃ u, (k, u) ∈ t.map ∧ (r, x) ∈ leavesT u := by
  have hm : t.map ≠ [] := fun e => by
    rw [leaves_one e] at h
    have := List.mem_singleton.1 h
    cases this
  rw [leaves_flat hm] at h
  obtain ⟨p, hp, y, hy, e⟩ := mem_flatM.1 h
  injection e with e1 e2
  injection e1 with e3 e4
  refine ⟨hm, p.2, ?_, ?_⟩
  · rw [e3]; exact hp
  · rw [e4, e2]; exact hy
theorem dropR_find_other {key other : ByteArray} (h : other ≠ key) : ∀ m : Prs, findR other (dropR key m) = findR other m
  | [] => rfl
  | p :: r => by
    have ih := dropR_find_other h r
    unfold dropR at ih ⊢
    by_cases hk : p.1 = key
    · rw [List.filter_cons_of_neg (by simpa using hk), ih, findR_skip fun e => h (e.symm.trans hk)]
    · rw [List.filter_cons_of_pos (by simpa using hk)]
      by_cases ho : p.1 = other
      · rw [findR_here ho, findR_here ho]
      · rw [findR_skip ho, findR_skip ho, ih]
theorem get_drop_other (t : T) (key other : ByteArray) (h : other ≠ key) : (t.drop key).get other = t.get other := by
  obtain ⟨k, b, n, s, l, m⟩ := t
  unfold T.drop
  by_cases h5 : k = 5
  · rw [if_pos (show (T.mk k b n s l m).kind = 5 from h5), T.get_find, T.get_find, T.pairs, T.pairs, if_pos rfl, if_pos h5]
    exact dropR_find_other h m
  · rw [if_neg (show ¬ (T.mk k b n s l m).kind = 5 from h5)]
/-- Pruned at a leaf a value has all other leaves. -/
theorem at_prune_other : ∀ (l : List ByteArray) (t x : T), t.parts = 0 → (l, x) ∈ leavesT t → l ≠ [] → ∀ q ∈ leavesT t, q.1 ≠ l → atL q.1 (pruneL l t) = some q.2
  | [], _, _, _, _, h, _, _, _ => absurd rfl h
  | [k], t, x, hp, hx, _, q, hq, hne => by
    have hf := fine_of hp
    obtain ⟨hm, u, hu, hx⟩ := leaf_step hx
    have hq0 := hq
    rw [leaves_flat hm] at hq
    obtain ⟨p, hpm, y, hy, rfl⟩ := mem_flatM.1 hq
    rw [pruneL_one]
    by_cases hk : p.1 = k
    · exfalso
      have e : p.2 = u := by
        have h1 := hf.mem hpm
        have h2 := hf.mem hu
        rw [hk] at h1
        exact Option.some.inj (h1.symm.trans h2)
      have hum : u.map = [] := by
        by_cases h : u.map = []
        · exact h
        · rw [leaves_flat h] at hx
          obtain ⟨_, _, _, _, e⟩ := mem_flatM.1 hx
          cases e
      rw [e, leaves_one hum] at hy
      rw [List.mem_singleton.1 hy, hk] at hne
      exact hne rfl
    · show atL (p.1 :: y.1) _ = _
      rw [atL, get_drop_other _ _ _ hk]
      exact at_leaf t hp _ hq0
  | k :: k2 :: r, t, x, hp, hx, _, q, hq, hne => by
    have hf := fine_of hp
    obtain ⟨hm, u, hu, hx⟩ := leaf_step hx
    have hfu := hf.mem hu
    have hup := hf.part hu
    obtain ⟨hum, u2, hu2, _⟩ := leaf_step hx
    have h2 : (findR k2 u.map).isSome = true := by rw [(fine_of hup).mem hu2]; rfl
    have hq0 := hq
    rw [leaves_flat hm] at hq
    obtain ⟨p, hpm, y, hy, rfl⟩ := mem_flatM.1 hq
    rw [pruneL_step k k2 r hf hfu h2 (fine_of hup)]
    by_cases hk : p.1 = k
    · have e : p.2 = u := by
        have h1 := hf.mem hpm
        rw [hk] at h1
        exact Option.some.inj (h1.symm.trans hfu)
      rw [e] at hy
      have hy2 : y.1 ≠ k2 :: r := fun e2 => hne (by show p.1 :: y.1 = _; rw [hk, e2])
      have ih := at_prune_other (k2 :: r) u x hup hx (by simp) y hy hy2
      have hyn : y.1 ≠ [] := fun e2 => by
        rw [leaves_flat hum] at hy
        obtain ⟨_, _, _, _, e3⟩ := mem_flatM.1 hy
        rw [e3] at e2
        cases e2
      have hmn : ¬ (pruneL (k2 :: r) u).map.length = 0 := fun e2 => at_some_map ih hyn (List.eq_nil_of_length_eq_zero e2)
      rw [if_neg hmn]
      show atL (p.1 :: y.1) _ = _
      rw [hk, atL, get_put]
      exact ih
    · show atL (p.1 :: y.1) _ = _
      have := at_leaf t hp _ hq0
      split
      · rw [atL, get_drop_other _ _ _ hk]; exact this
      · rw [atL, get_put_other _ _ _ _ hk]; exact this
/-- .. and no map on the way is empty. -/
theorem prune_ways : ∀ (l : List ByteArray) (t x : T), t.parts = 0 → (l, x) ∈ leavesT t → ∀ i, 1 ≤ i → i < l.length → ∀ u, atL (l.take i) (pruneL l t) = some u → u.map ≠ []
  | [], _, _, _, _, i, _, h, _, _ => absurd h (by simp)
  | [k], _, _, _, _, i, h1, h, _, _ => by simp at h; omega
  | k :: k2 :: r, t, x, hp, hx, i, h1, hi, v, hv => by
    have hf := fine_of hp
    obtain ⟨hm, u, hu, hx⟩ := leaf_step hx
    have hfu := hf.mem hu
    have hup := hf.part hu
    obtain ⟨hum, u2, hu2, _⟩ := leaf_step hx
    have h2 : (findR k2 u.map).isSome = true := by rw [(fine_of hup).mem hu2]; rfl
    obtain ⟨j, rfl⟩ : ∃ j, i = j + 1 := ⟨i - 1, by omega⟩
    rw [pruneL_step k k2 r hf hfu h2 (fine_of hup), List.take_succ_cons] at hv
    by_cases hz : (pruneL (k2 :: r) u).map.length = 0
    · rw [if_pos hz, atL, get_drop] at hv
      cases hv
    · rw [if_neg hz, atL, get_put] at hv
      by_cases hj : j = 0
      · subst hj
        have hv : some (pruneL (k2 :: r) u) = some v := hv
        injection hv with hv
        rw [← hv]
        exact fun e => hz (by rw [e]; rfl)
      · exact prune_ways (k2 :: r) u x hup hx j (by omega) (by simp at hi ⊢; omega) v hv
/-- Dropped at a path a value has all that stands elsewhere. -/
theorem at_drop_other : ∀ (l m : List ByteArray) (t : T), beginsB l m = false → beginsB m l = false → atL m (dropL l t) = atL m t
  | [], m, _, _, h => by rw [begins_nil] at h; cases h
  | _ :: _, [], _, h, _ => by rw [begins_nil] at h; cases h
  | [k], k' :: m, t, h1, h2 => by
    by_cases hk : k' = k
    · subst hk
      rw [begins_cons, begins_nil] at h2
      cases h2
    · rw [dropL, atL, get_drop_other _ _ _ hk, atL]
  | k :: k2 :: r, k' :: m, t, h1, h2 => by
    rw [dropL]
    by_cases hk : k' = k
    · subst hk
      rw [begins_cons] at h1 h2
      have hm : m ≠ [] := fun e => by rw [e, begins_nil] at h1; cases h1
      rw [atL, get_put]
      show atL m (dropL (k2 :: r) (inL k' t)) = _
      rw [at_drop_other (k2 :: r) m (inL k' t) h1 h2, at_in t hm]
    · rw [atL, get_put_other _ _ _ _ hk, atL]
/-- .. and the maps on the way stay. -/
theorem drop_ways : ∀ (l : List ByteArray) (t : T), (atL l t).isSome = true → ∀ i, 1 ≤ i → i < l.length → ∃ u, atL (l.take i) (dropL l t) = some u ∧ u.kind = 5
  | [], _, _, i, _, h => absurd h (by simp)
  | [k], _, _, i, h1, h => by simp at h; omega
  | k :: k2 :: r, t, hs, i, h1, hi => by
    obtain ⟨j, rfl⟩ : ∃ j, i = j + 1 := ⟨i - 1, by omega⟩
    rw [List.take_succ_cons, dropL, atL, get_put]
    rw [at_in t (by simp)] at hs
    show ∃ u, atL ((k2 :: r).take j) (dropL (k2 :: r) (inL k t)) = some u ∧ u.kind = 5
    by_cases hj : j = 0
    · subst hj
      refine ⟨_, rfl, ?_⟩
      cases r with
      | nil =>
        have h5 : (inL k t).kind = 5 := by
          rw [atL, T.get_find] at hs
          generalize inL k t = y at hs ⊢
          obtain ⟨k0, b, n, s, l, m⟩ := y
          rw [T.pairs] at hs
          by_cases h : k0 = 5
          · exact h
          · rw [if_neg h] at hs; cases hs
        rw [dropL, T.drop, if_pos h5]
        rfl
      | cons k3 r3 => rw [dropL]; rfl
    · exact drop_ways (k2 :: r) (inL k t) hs j (by omega) (by simp at hi ⊢; omega)

/-- What PathDrops says of a value, and a leaf of it. -/
theorem drops_facts {t x : T} {l : List ByteArray} (hp : t.parts = 0) (hx : (l, x) ∈ leavesT t) (hl : l ≠ []) : pruneAt l t = pruneL l t ∧ dropAt l t = dropL l t := by
  have hs : (atL l t).isSome = true := by rw [at_leaf t hp _ hx]; rfl
  exact ⟨pruneAt_L hs hl, by rw [dropAt, if_pos hs]⟩
theorem leaf_ne {t : T} (hm : t.map ≠ []) {q : List ByteArray × T} (hq : q ∈ leavesT t) : q.1 ≠ [] := fun e => by
  rw [leaves_flat hm] at hq
  obtain ⟨_, _, _, _, e2⟩ := mem_flatM.1 hq
  rw [e2] at e
  cases e
theorem leaves_idx {t : T} (hp : t.parts = 0) {i j : Nat} (hi : i < (leavesT t).length) (hj : j < (leavesT t).length) (hij : i ≠ j) : beginsB (leavesT t)[i].1 (leavesT t)[j].1 = false := by
  have h := List.pairwise_iff_getElem.1 (leaves_apart t hp)
  rcases Nat.lt_or_ge i j with h1 | h1
  · exact (h i j hi hj h1).1
  · exact (h j i hj hi (by omega)).2
theorem leaves_other {t : T} (hp : t.parts = 0) {i j : Nat} (hi : i < (leavesT t).length) (hj : j < (leavesT t).length) (hij : i ≠ j) : (leavesT t)[i].1 ≠ (leavesT t)[j].1 := fun e => by
  have := leaves_idx hp hi hj hij
  rw [e, begins_self] at this
  cases this

end Go.Proofs.Ytfmlhdkodnbfaaa
