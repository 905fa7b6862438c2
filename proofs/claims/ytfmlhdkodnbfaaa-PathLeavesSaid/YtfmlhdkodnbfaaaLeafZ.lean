/-
  Leaves put one by one, from any one on, round about: pure.
-/
import Derived.Test.YtfmlhdkodnbfaaaLeafA
set_option linter.unusedVariables false
set_option linter.unusedSimpArgs false
namespace Go.Proofs.Ytfmlhdkodnbfaaa
open Go.RowKit Go.Sort

theorem sum_sub : ∀ (m m' : Prs), Asc m → Asc m' → (∀ p ∈ m', ∃ u, (p.1, u) ∈ m ∧ p.2.size ≤ u.size) → (m'.map fun p => p.2.size).sum ≤ (m.map fun p => p.2.size).sum
  | [], m', _, _, h => by
    cases m' with
    | nil => exact Nat.le_refl _
    | cons p r => obtain ⟨u, hu, _⟩ := h p (by simp); cases hu
  | (k, u) :: r, [], _, _, _ => by simp
  | (k, u) :: r, (k', x) :: r', ha, ha', h => by
    have lt_ne : ∀ {a b : ByteArray}, ltS a b = true → a ≠ b := fun h e => by rw [e, ltS_irr] at h; cases h
    by_cases hk : k' = k
    · subst hk
      have ih := sum_sub r r' ha.tail ha'.tail fun p hp => by
        obtain ⟨v, hv, hs⟩ := h p (by simp [hp])
        rcases List.mem_cons.1 hv with e | hv
        · have := ha'.head p hp
          injection e with e1 e2
          exact absurd e1.symm (lt_ne this)
        · exact ⟨v, hv, hs⟩
      obtain ⟨v, hv, hs⟩ := h (k', x) (by simp)
      have hv : (k', v) ∈ (k', u) :: r := hv
      have e : v = u := by
        rcases List.mem_cons.1 hv with e | hv
        · injection e with _ e
        · have h9 := ha.head (k', v) hv
          exact absurd rfl (lt_ne h9)
      subst e
      have hs : x.size ≤ v.size := hs
      simp only [List.map_cons, List.sum_cons]
      omega
    · have hin : ∀ p ∈ (k', x) :: r', ∃ v, (p.1, v) ∈ r ∧ p.2.size ≤ v.size := fun p hp => by
        obtain ⟨v, hv, hs⟩ := h p hp
        rcases List.mem_cons.1 hv with e | hv
        · exfalso
          injection e with e1 e2
          obtain ⟨y, hy, _⟩ := h (k', x) (by simp)
          have hy : (k', y) ∈ (k, u) :: r := hy
          have h1 : ltS k k' = true := by
            rcases List.mem_cons.1 hy with e | hy
            · injection e with e _
              exact absurd e hk
            · exact ha.head _ hy
          rcases List.mem_cons.1 hp with e | hp
          · rw [e] at e1; exact hk e1
          · have h2 := ha'.head p hp
            rw [e1] at h2
            have h3 := ltS_trans h1 h2
            rw [ltS_irr] at h3
            cases h3
        · exact ⟨v, hv, hs⟩
      have ih := sum_sub r ((k', x) :: r') ha.tail ha' hin
      rw [List.map_cons (f := fun p : ByteArray × T => p.2.size) (a := (k, u)), List.sum_cons]
      omega

theorem subL_mem {k : ByteArray} {ls : Lvs} {q : List ByteArray × T} (h : q ∈ subL k ls) : (k :: q.1, q.2) ∈ ls := by
  unfold subL at h
  obtain ⟨p, hp, e⟩ := List.mem_filterMap.1 h
  obtain ⟨l, x⟩ := p
  cases l with
  | nil => cases e
  | cons a r =>
    by_cases ha : a = k
    · subst ha
      simp at e
      rw [← e]
      exact hp
    · simp [ha] at e
theorem putAll_const {t : T} : ∀ (ls : Lvs) (a : T), (∀ q ∈ ls, q = ([], t)) → ls ≠ [] → putAll ls a = t
  | [], _, _, h => absurd rfl h
  | q :: ls, a, h, _ => by
    have e := h q (by simp)
    subst e
    by_cases hl : ls = []
    · subst hl; rfl
    · exact putAll_const ls _ (fun q hq => h q (by simp [hq])) hl
/-- What is put of a value's leaves is no greater. -/
theorem putAll_size (t : T) : t.parts = 0 → ∀ ls : Lvs, (∀ q ∈ ls, q ∈ leavesT t) → ls ≠ [] → (putAll ls T.nil).size ≤ t.size := by
  induction t using T.ind with
  | _ k b n s l m hl hm =>
    intro hp ls hls hne
    by_cases h : m = []
    · rw [leaves_one (show (T.mk k b n s l m).map = [] from h)] at hls
      rw [putAll_const ls T.nil (fun q hq => List.mem_singleton.1 (hls q hq)) hne]
      exact Nat.le_refl _
    · have hmn : (T.mk k b n s l m).map ≠ [] := h
      obtain ⟨_, ha, he⟩ := five_of hp hmn
      have hq : ∀ q ∈ ls, q.1 ≠ [] := fun q hq => leaf_ne hmn (hls q hq)
      obtain ⟨e1, e2⟩ := putAll_form ls T.nil hq List.Pairwise.nil (.inl hne)
      have hsz := size_map (T.mk k b n s l m)
      rw [e1, size_five]
      have hsum := sum_sub m (putAll ls T.nil).pairs ha e2 fun p hp' => by
        have hg := putAll_get ls T.nil p.1 hq
        rw [T.get_find, find_asc e2 hp'] at hg
        by_cases hs : subL p.1 ls = []
        · rw [if_pos hs, nil_get] at hg
          cases hg
        · rw [if_neg hs] at hg
          injection hg with hg
          obtain ⟨q0, hq0⟩ := List.exists_mem_of_ne_nil _ hs
          obtain ⟨_, u, hu, _⟩ := leaf_step (hls _ (subL_mem hq0))
          have hu : (p.1, u) ∈ m := hu
          refine ⟨u, hu, ?_⟩
          rw [hg]
          refine hm (p.1, u) hu (he _ hu).2 _ (fun q hq2 => ?_) hs
          obtain ⟨_, u2, hu2, hq3⟩ := leaf_step (hls _ (subL_mem hq2))
          have e3 : u2 = u := by
            have h1 := find_asc ha hu2
            have h2 := find_asc ha (show (p.1, u) ∈ (T.mk k b n s l m).map from hu)
            exact Option.some.inj (h1.symm.trans h2)
          rw [← e3]
          exact hq3
      have : (T.mk k b n s l m).map = m := rfl
      rw [this] at hsz
      omega
/-- The first j leaves, from leaf b on, round about. -/
def rotL (ls : Lvs) (b j : Nat) : Lvs := (List.range j).map fun i => (ls[(i + b) % ls.length]?).getD ([], T.nil)
theorem rotL_succ (ls : Lvs) (b j : Nat) (h : (j + b) % ls.length < ls.length) : rotL ls b (j + 1) = rotL ls b j ++ [ls[(j + b) % ls.length]] := by
  unfold rotL
  rw [List.range_succ, List.map_append, List.map_singleton, List.getElem?_eq_getElem h]
  rfl
theorem rotL_mem {ls : Lvs} {b j : Nat} (hn : 0 < ls.length) : ∀ q ∈ rotL ls b j, q ∈ ls := fun q hq => by
  obtain ⟨i, _, rfl⟩ := List.mem_map.1 hq
  rw [List.getElem?_eq_getElem (Nat.mod_lt _ hn)]
  exact List.getElem_mem _
theorem putAll_step (ls : Lvs) (b j : Nat) (h : (j + b) % ls.length < ls.length) : putAll (rotL ls b (j + 1)) T.nil = putL ls[(j + b) % ls.length].1 (putAll (rotL ls b j) T.nil) ls[(j + b) % ls.length].2 := by
  rw [rotL_succ ls b j h]
  unfold putAll
  rw [List.foldl_append]
  rfl
theorem rotL_all (ls : Lvs) (b : Nat) (hn : 0 < ls.length) : (rotL ls b ls.length).Perm ls := by
  have hb := Nat.mod_lt b hn
  have e : rotL ls b ls.length = ls.drop (b % ls.length) ++ ls.take (b % ls.length) := by
    refine List.ext_getElem ?_ fun i h1 h2 => ?_
    · simp [rotL]
      omega
    · have hi : i < ls.length := by simpa [rotL] using h1
      have hm : (i + b) % ls.length < ls.length := Nat.mod_lt _ hn
      have e1 : (rotL ls b ls.length)[i] = ls[(i + b) % ls.length] := by
        simp only [rotL, List.getElem_map, List.getElem_range]
        rw [List.getElem?_eq_getElem hm]
        rfl
      rw [e1, List.getElem_append]
      have hmod : (i + b) % ls.length = (i + b % ls.length) % ls.length := by rw [Nat.add_mod_mod]
      split
      · next h3 =>
        rw [List.length_drop] at h3
        have e2 : (i + b) % ls.length = b % ls.length + i := by rw [hmod, Nat.mod_eq_of_lt (by omega)]; omega
        rw [List.getElem_drop]
        congr 1
      · next h3 =>
        rw [List.length_drop] at h3
        have e2 : (i + b) % ls.length = i - (ls.drop (b % ls.length)).length := by
          rw [hmod, List.length_drop, Nat.mod_eq_sub_mod (by omega), Nat.mod_eq_of_lt (by omega)]
          omega
        rw [List.getElem_take]
        congr 1
  rw [e]
  exact (List.perm_append_comm).trans (by rw [List.take_append_drop])
theorem size_pos0 (t : T) : 1 ≤ t.size := by
  obtain ⟨k, b, n, s, l, m⟩ := t
  rw [T.size_mk]
  omega
theorem rot_size {t : T} (hp : t.parts = 0) (b j : Nat) : (putAll (rotL (leavesT t) b j) T.nil).size ≤ t.size := by
  by_cases h : rotL (leavesT t) b j = []
  · rw [h]
    show T.nil.size ≤ _
    have h1 : T.nil.size = 1 := by show T.size (.mk 0 false 0 ⟨#[]⟩ [] []) = 1; rw [T.size_mk]; simp
    rw [h1]
    exact size_pos0 t
  · exact putAll_size t hp _ (rotL_mem (List.length_pos_iff.2 (leaves_ne t))) h
theorem rot_all {t : T} (hp : t.parts = 0) (b : Nat) : putAll (rotL (leavesT t) b (leavesT t).length) T.nil = t := putAll_leaves t hp _ (rotL_all _ b (List.length_pos_iff.2 (leaves_ne t)))

end Go.Proofs.Ytfmlhdkodnbfaaa
