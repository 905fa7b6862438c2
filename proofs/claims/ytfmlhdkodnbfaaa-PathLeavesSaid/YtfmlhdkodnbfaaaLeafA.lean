/-
  The leaves of a value that is pruned, or dropped, at them one by one: pure.
-/
import Derived.Test.YtfmlhdkodnbfaaaLeafD
set_option linter.unusedVariables false
set_option linter.unusedSimpArgs false
namespace Go.Proofs.Ytfmlhdkodnbfaaa
open Go.RowKit Go.Sort

theorem flatM_append (a b : Prs) : flatM (a ++ b) = flatM a ++ flatM b := by unfold flatM; rw [List.map_append, List.flatten_append]
theorem flatM_cons (p : ByteArray × T) (m : Prs) : flatM (p :: m) = ((leavesT p.2).map fun q => (p.1 :: q.1, q.2)) ++ flatM m := by unfold flatM; rw [List.map_cons, List.flatten_cons]
/-- Where a key stands. -/
structure At (m : Prs) (k : ByteArray) (u : T) (m1 m2 : Prs) : Prop where
  is : m = m1 ++ (k, u) :: m2
  drop : dropR k m = m1 ++ m2
  put : ∀ x, putR k x m = m1 ++ (k, x) :: m2
  one : ∀ p ∈ m1, p.1 ≠ k
  two : ∀ p ∈ m2, p.1 ≠ k
theorem dropR_self {k : ByteArray} {m : Prs} (h : ∀ p ∈ m, p.1 ≠ k) : dropR k m = m := List.filter_eq_self.2 fun p hp => by simpa using h p hp
theorem at_key : ∀ {m : Prs} {k : ByteArray} {u : T}, Asc m → (k, u) ∈ m → ∃ m1 m2, At m k u m1 m2
  | [], _, _, _, h => by cases h
  | p :: r, k, u, ha, h => by
    have hlt : ∀ q ∈ r, q.1 ≠ p.1 := fun q hq e => by
      have := ha.head q hq
      rw [e, ltS_irr] at this
      cases this
    rcases List.mem_cons.1 h with e | h
    · subst e
      refine ⟨[], r, rfl, ?_, fun x => putR_eq rfl, fun p hp => (by cases hp), hlt⟩
      have : dropR k ((k, u) :: r) = dropR k r := List.filter_cons_of_neg (by simp)
      rw [this, dropR_self hlt]
      rfl
    · obtain ⟨m1, m2, hA⟩ := at_key ha.tail h
      have hne : p.1 ≠ k := fun e => hlt _ h e.symm
      refine ⟨p :: m1, m2, by rw [hA.is]; rfl, ?_, fun x => ?_, fun q hq => ?_, hA.two⟩
      · have : dropR k (p :: r) = p :: dropR k r := List.filter_cons_of_pos (by simpa using hne)
        rw [this, hA.drop]
        rfl
      · rw [putR_lt (ha.head _ h), hA.put]
        rfl
      · rcases List.mem_cons.1 hq with e | hq
        · rw [e]; exact hne
        · exact hA.one q hq
theorem flat_keep {m : Prs} {k : ByteArray} (h : ∀ p ∈ m, p.1 ≠ k) (l : List ByteArray) : (flatM m).filter (fun q => decide (q.1 ≠ k :: l)) = flatM m := List.filter_eq_self.2 fun q hq => by
  obtain ⟨p, hp, y, hy, rfl⟩ := mem_flatM.1 hq
  have := h p hp
  simp [this]
theorem five_of {t : T} (hp : t.parts = 0) (hm : t.map ≠ []) : t.kind = 5 ∧ Asc t.map ∧ ∀ q ∈ t.map, keyB q.1 = true ∧ q.2.parts = 0 := by
  have hf := fine_of hp
  have h5 : t.kind = 5 := by
    have := hf.five (by rw [← hf.pairs]; exact hm)
    rw [this]; rfl
  obtain ⟨_, h1, h2⟩ := map_parts hp h5
  rw [← hf.pairs] at h1 h2
  exact ⟨h5, h1, h2⟩
theorem drop_form {t : T} {k : ByteArray} {u : T} {m1 m2 : Prs} (h5 : t.kind = 5) (hA : At t.map k u m1 m2) : t.drop k = .mk 5 false 0 ⟨#[]⟩ [] (m1 ++ m2) := by
  rw [T.drop, if_pos h5, hA.drop]
theorem put_form {t : T} {k : ByteArray} {u x : T} {m1 m2 : Prs} (hp : t.parts = 0) (hA : At t.map k u m1 m2) : t.put k x = .mk 5 false 0 ⟨#[]⟩ [] (m1 ++ (k, x) :: m2) := by
  rw [T.put, ← (fine_of hp).pairs, hA.put]
theorem asc_out {m1 m2 : Prs} {p : ByteArray × T} (h : Asc (m1 ++ p :: m2)) : Asc (m1 ++ m2) := h.sublist (List.Sublist.append (List.Sublist.refl _) (List.sublist_cons_self _ _))
theorem asc_in {m1 m2 : Prs} {k : ByteArray} {u x : T} (h : Asc (m1 ++ (k, u) :: m2)) : Asc (m1 ++ (k, x) :: m2) := by
  have h1 := List.pairwise_append.1 h
  have h2 := List.pairwise_cons.1 h1.2.1
  refine List.pairwise_append.2 ⟨h1.1, List.pairwise_cons.2 ⟨fun q hq => h2.1 q hq, h2.2⟩, fun a ha b hb => ?_⟩
  rcases List.mem_cons.1 hb with e | hb
  · rw [e]; exact h1.2.2 a ha (k, u) (by simp)
  · exact h1.2.2 a ha b (by simp [hb])
theorem size_five (m : Prs) : (T.mk 5 false 0 ⟨#[]⟩ [] m).size = 1 + (m.map fun p => p.2.size).sum := by rw [T.size_mk]; simp
theorem size_map (t : T) : 1 + (t.map.map fun p => p.2.size).sum ≤ t.size := by
  obtain ⟨k, b, n, s, l, m⟩ := t
  rw [T.size_mk]
  show 1 + (m.map _).sum ≤ _
  omega
/-- What is left of a value that may be, without a key, or with less under it. -/
theorem five_drop {t : T} {k : ByteArray} {u : T} {m1 m2 : Prs} (hp : t.parts = 0) (hA : At t.map k u m1 m2) : t.drop k = .mk 5 false 0 ⟨#[]⟩ [] (m1 ++ m2) ∧ (t.drop k).parts = 0 ∧ (t.drop k).size ≤ t.size := by
  have hm : t.map ≠ [] := by rw [hA.is]; simp
  obtain ⟨h5, ha, he⟩ := five_of hp hm
  rw [hA.is] at ha he
  have e := drop_form h5 hA
  refine ⟨e, ?_, ?_⟩
  · rw [e]
    exact parts_map5 (asc_out ha) fun q hq => he q (by rcases List.mem_append.1 hq with h | h <;> simp [h])
  · rw [e, size_five]
    have := size_map t
    rw [hA.is, List.map_append, List.sum_append, List.map_cons, List.sum_cons] at this
    rw [List.map_append, List.sum_append]
    omega
theorem five_put {t : T} {k : ByteArray} {u x : T} {m1 m2 : Prs} (hp : t.parts = 0) (hA : At t.map k u m1 m2) (hx : x.parts = 0) (hs : x.size ≤ u.size) : t.put k x = .mk 5 false 0 ⟨#[]⟩ [] (m1 ++ (k, x) :: m2) ∧ (t.put k x).parts = 0 ∧ (t.put k x).size ≤ t.size := by
  have hm : t.map ≠ [] := by rw [hA.is]; simp
  obtain ⟨h5, ha, he⟩ := five_of hp hm
  rw [hA.is] at ha he
  have e := put_form (x := x) hp hA
  refine ⟨e, ?_, ?_⟩
  · rw [e]
    refine parts_map5 (asc_in ha) fun q hq => ?_
    rcases List.mem_append.1 hq with h | h
    · exact he q (by simp [h])
    · rcases List.mem_cons.1 h with h | h
      · rw [h]; exact ⟨(he (k, u) (by simp)).1, hx⟩
      · exact he q (by simp [h])
  · rw [e, size_five]
    have := size_map t
    rw [hA.is, List.map_append, List.sum_append, List.map_cons, List.sum_cons] at this
    rw [List.map_append, List.sum_append, List.map_cons, List.sum_cons]
    show 1 + (_ + (x.size + _)) ≤ _
    have e2 : ((k, u) : ByteArray × T).2.size = u.size := rfl
    omega
theorem filter_cons_map (k : ByteArray) (l : List ByteArray) (ls : Lvs) : (ls.map fun q => (k :: q.1, q.2)).filter (fun q => decide (q.1 ≠ k :: l)) = (ls.filter fun q => decide (q.1 ≠ l)).map fun q => (k :: q.1, q.2) := by
  induction ls with
  | nil => rfl
  | cons q r ih =>
    by_cases h : q.1 = l
    · rw [List.map_cons, List.filter_cons_of_neg (by simp [h]), ih, List.filter_cons_of_neg (by simp [h])]
    · rw [List.map_cons, List.filter_cons_of_pos (by simp [h]), ih, List.filter_cons_of_pos (by simp [h]), List.map_cons]
/-- Pruned at a leaf: the other leaves, in order. -/
theorem prune_flat : ∀ (l : List ByteArray) (t x : T), t.parts = 0 → (l, x) ∈ leavesT t → l ≠ [] → (pruneL l t).kind = 5 ∧ (pruneL l t).parts = 0 ∧ (pruneL l t).size ≤ t.size ∧ flatM (pruneL l t).map = (flatM t.map).filter (fun q => decide (q.1 ≠ l))
  | [], _, _, _, _, h => absurd rfl h
  | [k], t, x, hp, hx, _ => by
    obtain ⟨hm, u, hu, hx⟩ := leaf_step hx
    obtain ⟨h5, ha, _⟩ := five_of hp hm
    obtain ⟨m1, m2, hA⟩ := at_key ha hu
    obtain ⟨e, e1, e2⟩ := five_drop hp hA
    have hum : u.map = [] := by
      by_cases h : u.map = []
      · exact h
      · rw [leaves_flat h] at hx
        obtain ⟨_, _, _, _, e⟩ := mem_flatM.1 hx
        cases e
    rw [pruneL_one]
    refine ⟨by rw [e]; rfl, e1, e2, ?_⟩
    rw [e, hA.is]
    show flatM (m1 ++ m2) = _
    rw [flatM_append, flatM_append, flatM_cons, List.filter_append, List.filter_append, flat_keep hA.one, flat_keep hA.two, leaves_one hum]
    simp
  | k :: k2 :: r, t, x, hp, hx, _ => by
    have hf := fine_of hp
    obtain ⟨hm, u, hu, hx⟩ := leaf_step hx
    obtain ⟨h5, ha, he⟩ := five_of hp hm
    obtain ⟨m1, m2, hA⟩ := at_key ha hu
    have hup := (he _ hu).2
    obtain ⟨hum, u2, hu2, _⟩ := leaf_step hx
    have h2 : (findR k2 u.map).isSome = true := by rw [(fine_of hup).mem hu2]; rfl
    obtain ⟨i5, ip, isz, ifl⟩ := prune_flat (k2 :: r) u x hup hx (by simp)
    rw [pruneL_step k k2 r hf (hf.mem hu) h2 (fine_of hup)]
    have hfilt : (flatM t.map).filter (fun q => decide (q.1 ≠ k :: k2 :: r)) = flatM m1 ++ (((flatM (pruneL (k2 :: r) u).map)).map fun q => (k :: q.1, q.2)) ++ flatM m2 := by
      rw [hA.is, flatM_append, flatM_cons, List.filter_append, List.filter_append, flat_keep hA.one, flat_keep hA.two, filter_cons_map, ifl, List.append_assoc, leaves_flat hum]
    rw [hfilt]
    by_cases hz : (pruneL (k2 :: r) u).map.length = 0
    · rw [if_pos hz]
      obtain ⟨e, e1, e2⟩ := five_drop hp hA
      refine ⟨by rw [e]; rfl, e1, e2, ?_⟩
      rw [e, List.eq_nil_of_length_eq_zero hz]
      show flatM (m1 ++ m2) = _
      rw [flatM_append]
      simp [flatM]
    · rw [if_neg hz]
      obtain ⟨e, e1, e2⟩ := five_put hp hA ip isz
      refine ⟨by rw [e]; rfl, e1, e2, ?_⟩
      have hz2 : (pruneL (k2 :: r) u).map ≠ [] := fun e => hz (by rw [e]; rfl)
      rw [e]
      show flatM (m1 ++ (k, pruneL (k2 :: r) u) :: m2) = _
      rw [flatM_append, flatM_cons, leaves_flat hz2, List.append_assoc]
/-- Dropped at a leaf: the other leaves, and maps. -/
theorem drop_flat : ∀ (l : List ByteArray) (t x : T), t.parts = 0 → (l, x) ∈ leavesT t → l ≠ [] → (dropL l t).kind = 5 ∧ (dropL l t).parts = 0 ∧ (dropL l t).size ≤ t.size ∧ (∀ q ∈ leavesT (dropL l t), (q ∈ leavesT t ∧ q.1 ≠ l) ∨ q.2.kind = 5) ∧ (∀ q ∈ leavesT t, q.1 ≠ l → q ∈ leavesT (dropL l t))
  | [], _, _, _, _, h => absurd rfl h
  | [k], t, x, hp, hx, _ => by
    obtain ⟨hm, u, hu, hx⟩ := leaf_step hx
    obtain ⟨h5, ha, _⟩ := five_of hp hm
    obtain ⟨m1, m2, hA⟩ := at_key ha hu
    obtain ⟨e, e1, e2⟩ := five_drop hp hA
    have hum : u.map = [] := by
      by_cases h : u.map = []
      · exact h
      · rw [leaves_flat h] at hx
        obtain ⟨_, _, _, _, e⟩ := mem_flatM.1 hx
        cases e
    have hlt : leavesT t = flatM m1 ++ ([([k], u)] ++ flatM m2) := by
      rw [leaves_flat hm, hA.is, flatM_append, flatM_cons, leaves_one hum]
      rfl
    have ed : dropL [k] t = t.drop k := rfl
    rw [ed]
    refine ⟨by rw [e]; rfl, e1, e2, fun q hq => ?_, fun q hq hne => ?_⟩
    · by_cases hz : m1 ++ m2 = []
      · rw [e, leaves_one (show (T.mk 5 false 0 ⟨#[]⟩ [] (m1 ++ m2)).map = [] from hz)] at hq
        rw [List.mem_singleton.1 hq]
        exact .inr rfl
      · rw [e, leaves_flat (show (T.mk 5 false 0 ⟨#[]⟩ [] (m1 ++ m2)).map ≠ [] from hz)] at hq
        have hq : q ∈ flatM (m1 ++ m2) := hq
        refine .inl ⟨?_, fun e3 => ?_⟩
        · rw [hlt]
          rw [flatM_append] at hq
          rcases List.mem_append.1 hq with h | h <;> simp [h]
        · obtain ⟨p, hpm, y, hy, e4⟩ := mem_flatM.1 hq
          rw [e4] at e3
          injection e3 with e3
          rcases List.mem_append.1 hpm with h | h
          · exact hA.one p h e3
          · exact hA.two p h e3
    · rw [hlt] at hq
      have hq2 : q ∈ flatM (m1 ++ m2) := by
        rw [flatM_append]
        rcases List.mem_append.1 hq with h | h
        · simp [h]
        · rcases List.mem_append.1 h with h | h
          · rw [List.mem_singleton.1 h] at hne
            exact absurd rfl hne
          · simp [h]
      have hz : m1 ++ m2 ≠ [] := fun e3 => by rw [e3] at hq2; cases hq2
      rw [e, leaves_flat (show (T.mk 5 false 0 ⟨#[]⟩ [] (m1 ++ m2)).map ≠ [] from hz)]
      exact hq2
  | k :: k2 :: r, t, x, hp, hx, _ => by
    have hf := fine_of hp
    obtain ⟨hm, u, hu, hx⟩ := leaf_step hx
    obtain ⟨h5, ha, he⟩ := five_of hp hm
    obtain ⟨m1, m2, hA⟩ := at_key ha hu
    have hup := (he _ hu).2
    obtain ⟨i5, ip, isz, ia, ib⟩ := drop_flat (k2 :: r) u x hup hx (by simp)
    have ei : inL k t = u := by rw [← hf.inL, hf.mem hu]; rfl
    have ed : dropL (k :: k2 :: r) t = t.put k (dropL (k2 :: r) u) := by rw [dropL, ei]
    rw [ed]
    obtain ⟨e, e1, e2⟩ := five_put hp hA ip isz
    have hl1 : leavesT t = flatM m1 ++ (((leavesT u).map fun q => (k :: q.1, q.2)) ++ flatM m2) := by rw [leaves_flat hm, hA.is, flatM_append, flatM_cons]
    have hl2 : leavesT (t.put k (dropL (k2 :: r) u)) = flatM m1 ++ (((leavesT (dropL (k2 :: r) u)).map fun q => (k :: q.1, q.2)) ++ flatM m2) := by
      rw [e, leaves_flat (show (T.mk 5 false 0 ⟨#[]⟩ [] (m1 ++ (k, dropL (k2 :: r) u) :: m2)).map ≠ [] from by show m1 ++ _ ≠ []; simp)]
      show flatM (m1 ++ _) = _
      rw [flatM_append, flatM_cons]
    have hne1 : ∀ q ∈ flatM m1, q.1 ≠ k :: k2 :: r := fun q hq e3 => by
      obtain ⟨p, hpm, y, hy, e4⟩ := mem_flatM.1 hq
      rw [e4] at e3
      injection e3 with e3
      exact hA.one p hpm e3
    have hne2 : ∀ q ∈ flatM m2, q.1 ≠ k :: k2 :: r := fun q hq e3 => by
      obtain ⟨p, hpm, y, hy, e4⟩ := mem_flatM.1 hq
      rw [e4] at e3
      injection e3 with e3
      exact hA.two p hpm e3
    refine ⟨by rw [e]; rfl, e1, e2, fun q hq => ?_, fun q hq hne => ?_⟩
    · rw [hl2] at hq
      rw [hl1]
      rcases List.mem_append.1 hq with h | h
      · exact .inl ⟨by simp [h], hne1 q h⟩
      · rcases List.mem_append.1 h with h | h
        · obtain ⟨y, hy, rfl⟩ := List.mem_map.1 h
          rcases ia y hy with ⟨hy1, hy2⟩ | hy1
          · refine .inl ⟨List.mem_append.2 (.inr (List.mem_append.2 (.inl (List.mem_map.2 ⟨y, hy1, rfl⟩)))), fun e3 => ?_⟩
            injection e3 with _ e3
            exact hy2 e3
          · exact .inr hy1
        · exact .inl ⟨by simp [h], hne2 q h⟩
    · rw [hl1] at hq
      rw [hl2]
      rcases List.mem_append.1 hq with h | h
      · simp [h]
      · rcases List.mem_append.1 h with h | h
        · obtain ⟨y, hy, rfl⟩ := List.mem_map.1 h
          exact List.mem_append.2 (.inr (List.mem_append.2 (.inl (List.mem_map.2 ⟨y, ib y hy fun e3 => hne (by show k :: y.1 = _; rw [e3]), rfl⟩))))
        · simp [h]

/-- The paths of the first j leaves, from leaf b on, round about. -/
def remL (ls : Lvs) (b j : Nat) : List (List ByteArray) := (List.range j).map fun i => ((ls[(i + b) % ls.length]?).map (·.1)).getD []
theorem remL_succ (ls : Lvs) (b j : Nat) (h : (j + b) % ls.length < ls.length) : remL ls b (j + 1) = remL ls b j ++ [ls[(j + b) % ls.length].1] := by
  unfold remL
  rw [List.range_succ, List.map_append, List.map_singleton, List.getElem?_eq_getElem h]
  rfl
theorem mod_ne {i j b n : Nat} (hij : i < j) (hj : j < n) : (i + b) % n ≠ (j + b) % n := fun e => by
  have h1 : (j + b - (i + b)) % n = 0 := Nat.sub_mod_eq_zero_of_mod_eq e.symm
  have h2 : j + b - (i + b) = j - i := by omega
  rw [h2, Nat.mod_eq_of_lt (by omega)] at h1
  omega
theorem mod_hit {k b n : Nat} (hk : k < n) : ∃ i, i < n ∧ (i + b) % n = k := by
  refine ⟨(k + (n - b % n)) % n, Nat.mod_lt _ (by omega), ?_⟩
  have hb := Nat.mod_lt b (show 0 < n by omega)
  rw [Nat.mod_add_mod]
  have e : k + (n - b % n) + b = k + n * (b / n + 1) := by
    have := Nat.div_add_mod b n
    rw [Nat.mul_add]
    omega
  rw [e, Nat.add_mul_mod_self_left, Nat.mod_eq_of_lt hk]
/-- It is none of these. -/
def outB (L : List (List ByteArray)) (q : List ByteArray) : Bool := L.all fun l => decide (l ≠ q)
theorem outB_iff {L : List (List ByteArray)} {q : List ByteArray} : outB L q = true ↔ q ∉ L := by
  unfold outB
  rw [List.all_eq_true]
  constructor
  · intro h hm
    have := h q hm
    simp at this
  · intro h l hl
    exact decide_eq_true fun e => h (e ▸ hl)
/-- How far it is: all but the first j are left. -/
structure Far (t : T) (b j : Nat) (p d : T) : Prop where
  p5 : p.kind = 5
  pp : p.parts = 0
  ps : p.size ≤ t.size
  pf : flatM p.map = (leavesT t).filter fun q => outB (remL (leavesT t) b j) q.1
  d5 : d.kind = 5
  dp : d.parts = 0
  ds : d.size ≤ t.size
  da : ∀ q ∈ leavesT d, (q ∈ leavesT t ∧ q.1 ∉ remL (leavesT t) b j) ∨ q.2.kind = 5
  db : ∀ q ∈ leavesT t, q.1 ∉ remL (leavesT t) b j → q ∈ leavesT d
theorem Far.start {t : T} {b : Nat} (hp : t.parts = 0) (hm : t.map ≠ []) : Far t b 0 t t := by
  obtain ⟨h5, _, _⟩ := five_of hp hm
  refine ⟨h5, hp, Nat.le_refl _, ?_, h5, hp, Nat.le_refl _, fun q hq => .inl ⟨hq, by simp [remL]⟩, fun q hq _ => hq⟩
  rw [leaves_flat hm]
  exact (List.filter_eq_self.2 fun q _ => outB_iff.2 (by simp [remL])).symm
theorem rem_not {t : T} {b j : Nat} (hp : t.parts = 0) (hj : j < (leavesT t).length) (hi : (j + b) % (leavesT t).length < (leavesT t).length) : (leavesT t)[(j + b) % (leavesT t).length].1 ∉ remL (leavesT t) b j := fun h => by
  obtain ⟨i, hir, e⟩ := List.mem_map.1 h
  have hij := List.mem_range.1 hir
  have hi2 : (i + b) % (leavesT t).length < (leavesT t).length := Nat.mod_lt _ (by omega)
  rw [List.getElem?_eq_getElem hi2] at e
  exact leaves_other hp hi2 hi (mod_ne hij hj) e
/-- One more: what is handed over is a leaf of both. -/
theorem Far.next {t p d : T} {b j : Nat} (h : Far t b j p d) (hp : t.parts = 0) (hm : t.map ≠ []) (hj : j < (leavesT t).length) (hi : (j + b) % (leavesT t).length < (leavesT t).length) :
    Far t b (j + 1) (pruneAt (leavesT t)[(j + b) % (leavesT t).length].1 p) (dropAt (leavesT t)[(j + b) % (leavesT t).length].1 d) := by
  have hmem : (leavesT t)[(j + b) % (leavesT t).length] ∈ leavesT t := List.getElem_mem hi
  have hnr := rem_not hp hj hi
  have hs := remL_succ (leavesT t) b j hi
  generalize hq : (leavesT t)[(j + b) % (leavesT t).length] = q at hmem hnr hs
  obtain ⟨l, x⟩ := q
  have hl : l ≠ [] := leaf_ne hm hmem
  have hs : remL (leavesT t) b (j + 1) = remL (leavesT t) b j ++ [l] := hs
  have hpm : (l, x) ∈ flatM p.map := by rw [h.pf]; exact List.mem_filter.2 ⟨hmem, outB_iff.2 hnr⟩
  have hpn : p.map ≠ [] := fun e => by rw [e] at hpm; cases hpm
  have hpl : (l, x) ∈ leavesT p := by rw [leaves_flat hpn]; exact hpm
  have hdl : (l, x) ∈ leavesT d := h.db _ hmem hnr
  have ep := (drops_facts h.pp hpl hl).1
  have ed := (drops_facts h.dp hdl hl).2
  obtain ⟨a1, a2, a3, a4⟩ := prune_flat l p x h.pp hpl hl
  obtain ⟨b1, b2, b3, b4, b5⟩ := drop_flat l d x h.dp hdl hl
  show Far t b (j + 1) (pruneAt l p) (dropAt l d)
  rw [ep, ed]
  refine ⟨a1, a2, Nat.le_trans a3 h.ps, ?_, b1, b2, Nat.le_trans b3 h.ds, fun q hq => ?_, fun q hq hn => ?_⟩
  · rw [a4, h.pf, List.filter_filter]
    refine List.filter_congr fun q _ => ?_
    rw [hs]
    unfold outB
    rw [List.all_append, Bool.and_comm]
    congr 1
    simp [eq_comm]
  · rcases b4 q hq with ⟨h1, h2⟩ | h1
    · rcases h.da q h1 with ⟨h3, h4⟩ | h3
      · exact .inl ⟨h3, by rw [hs]; simp [h4, h2]⟩
      · exact .inr h3
    · exact .inr h1
  · rw [hs] at hn
    exact b5 q (h.db q hq fun h1 => hn (by simp [h1])) fun h1 => hn (by simp [h1])
theorem Far.all {t p d : T} {b : Nat} (h : Far t b (leavesT t).length p d) : p.map = [] ∧ ∀ q ∈ leavesT d, q.2.kind = 5 := by
  have hall : ∀ q ∈ leavesT t, q.1 ∈ remL (leavesT t) b (leavesT t).length := fun q hq => by
    obtain ⟨k, hk, rfl⟩ := List.getElem_of_mem hq
    obtain ⟨i, hi, e⟩ := mod_hit (b := b) hk
    refine List.mem_map.2 ⟨i, List.mem_range.2 hi, ?_⟩
    subst e
    rw [List.getElem?_eq_getElem hk]
    rfl
  constructor
  · by_cases hz : p.map = []
    · exact hz
    · exfalso
      have h1 := leaves_ne p
      rw [leaves_flat hz, h.pf] at h1
      obtain ⟨q, hq⟩ := List.exists_mem_of_ne_nil _ h1
      obtain ⟨h2, h3⟩ := List.mem_filter.1 hq
      exact outB_iff.1 h3 (hall q h2)
  · intro q hq
    rcases h.da q hq with ⟨h1, h2⟩ | h1
    · exact absurd (hall q h1) h2
    · exact h1

end Go.Proofs.Ytfmlhdkodnbfaaa
