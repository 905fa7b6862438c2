/-
  What must be laid over a value so that it is another one: on the trees alone.
-/
import Derived.Test.YthjdeckdklhphaaGreatDoorOverSM
set_option linter.unusedVariables false
set_option linter.unusedSimpArgs false
namespace Go.Proofs.YthjdeckdklhphaaGreatDoor
open Go.RowKit

/-- Pairs of the same keys that have nothing. -/
def goneR (m : Prs) : Prs := m.map fun p => (p.1, T.nil)
/-- What is laid over here so that it is x, d being the layer of two maps; none: nothing. -/
def chg (here x d : T) : Option T := if here.kind = 5 ∧ x.kind = 5 then (if d.pairs.length = 0 then none else some d) else if T.cmp here x = 0 then none else some x
def oneR (key : ByteArray) (o : Option T) : Prs := match o with | none => [] | some d => [(key, d)]

mutual
/-- The layer that makes u out of t. -/
def T.diff (t : T) : T → T
  | .mk k b n s l m => if t.kind = 5 ∧ k = 5 then .mk 5 false 0 ⟨#[]⟩ [] (diffR t.pairs m) else .mk k b n s l m
termination_by u => SizeOf.sizeOf u
decreasing_by simp only [T.mk.sizeOf_spec]; omega
def diffR (rest : Prs) : Prs → Prs
  | [] => goneR rest
  | p :: ps => goneR (cutB p.1 rest) ++ (oneR p.1 (chg (cutH p.1 rest) p.2 (T.diff (cutH p.1 rest) p.2)) ++ diffR (cutA p.1 rest) ps)
termination_by m => SizeOf.sizeOf m
decreasing_by
  · obtain ⟨a, b⟩ := p
    simp only [List.cons.sizeOf_spec, Prod.mk.sizeOf_spec]; omega
  · simp only [List.cons.sizeOf_spec]; omega
end

theorem diff_map (t : T) (b : Bool) (n : Int) (s : ByteArray) (l : List T) (m : Prs) (h : t.kind = 5) : T.diff t (.mk 5 b n s l m) = .mk 5 false 0 ⟨#[]⟩ [] (diffR t.pairs m) := by rw [T.diff, if_pos ⟨h, rfl⟩]
theorem diff_other (t u : T) (h : ¬ (t.kind = 5 ∧ u.kind = 5)) : T.diff t u = u := by
  obtain ⟨k, b, n, s, l, m⟩ := u
  rw [T.diff]
  exact if_neg h
theorem pairs5 (b : Bool) (n : Int) (s : ByteArray) (l : List T) (m : Prs) : (T.mk 5 b n s l m).pairs = m := by rw [T.pairs, if_pos rfl]
theorem pairs_ne {k : Int} (b : Bool) (n : Int) (s : ByteArray) (l : List T) (m : Prs) (h : k ≠ 5) : (T.mk k b n s l m).pairs = [] := by rw [T.pairs, if_neg h]
theorem overAt_zero (was : Option T) {x : T} (h : x.kind = 0) : overAt was (some x) = none := by
  show (if x.kind = 0 then none else some (T.over (was.getD T.nil) x)) = none
  rw [if_pos h]
theorem overAt_some (was : Option T) {x : T} (h : x.kind ≠ 0) : overAt was (some x) = some (T.over (was.getD T.nil) x) := by
  show (if x.kind = 0 then none else some (T.over (was.getD T.nil) x)) = _
  rw [if_neg h]
theorem diffR_nil (rest : Prs) : diffR rest [] = goneR rest := by rw [diffR]
theorem diffR_cons (rest : Prs) (p : ByteArray × T) (ps : Prs) : diffR rest (p :: ps) = goneR (cutB p.1 rest) ++ (oneR p.1 (chg (cutH p.1 rest) p.2 (T.diff (cutH p.1 rest) p.2)) ++ diffR (cutA p.1 rest) ps) := by rw [diffR]

theorem findR_mem {key : ByteArray} {x : T} : ∀ {m : Prs}, findR key m = some x → ∃ q ∈ m, q.1 = key ∧ q.2 = x
  | [], h => by cases h
  | p :: r, h => by
    by_cases e : p.1 = key
    · rw [findR_here e] at h
      exact ⟨p, by simp, e, by injection h⟩
    · rw [findR_skip e] at h
      obtain ⟨q, hq, h2⟩ := findR_mem h
      exact ⟨q, List.mem_cons_of_mem _ hq, h2⟩

theorem asc_append {a b : Prs} (ha : Asc a) (hb : Asc b) (h : ∀ x ∈ a, ∀ y ∈ b, ltS x.1 y.1 = true) : Asc (a ++ b) := List.pairwise_append.2 ⟨ha, hb, h⟩
theorem cutB_asc {key : ByteArray} : ∀ {ps : Prs}, Asc ps → Asc (cutB key ps)
  | [], h => h
  | p :: r, h => by
    rw [cutB]
    split
    · exact List.pairwise_cons.2 ⟨fun q hq => h.head q (cutB_mem hq), cutB_asc h.tail⟩
    · exact List.Pairwise.nil
theorem gone_asc {m : Prs} (h : Asc m) : Asc (goneR m) := by
  unfold Asc goneR
  rw [List.pairwise_map]
  exact h
theorem gone_mem {m : Prs} {q : ByteArray × T} (h : q ∈ goneR m) : (∃ r ∈ m, r.1 = q.1) ∧ q.2 = T.nil := by
  obtain ⟨r, hr, rfl⟩ := List.mem_map.1 h
  exact ⟨⟨r, hr, rfl⟩, rfl⟩
theorem gone_find (key : ByteArray) : ∀ m : Prs, findR key (goneR m) = (findR key m).map fun _ => T.nil
  | [] => rfl
  | p :: r => by
    show findR key ((p.1, T.nil) :: goneR r) = _
    by_cases e : p.1 = key
    · rw [findR_here (p := (p.1, T.nil)) e, findR_here e]; rfl
    · rw [findR_skip (p := (p.1, T.nil)) e, findR_skip e, gone_find key r]
theorem oneR_mem {key : ByteArray} {o : Option T} {q : ByteArray × T} (h : q ∈ oneR key o) : q.1 = key ∧ o = some q.2 := by
  cases o with
  | none => cases h
  | some d =>
    obtain rfl : q = (key, d) := by simpa [oneR] using h
    exact ⟨rfl, rfl⟩
theorem oneR_asc (key : ByteArray) (o : Option T) : Asc (oneR key o) := by
  cases o with
  | none => exact List.Pairwise.nil
  | some d => exact List.pairwise_singleton _ _

/-- Two lists whose keys rise, and have the same under each key, are one. -/
theorem ext_find : ∀ {a b : Prs}, Asc a → Asc b → (∀ key, findR key a = findR key b) → a = b
  | [], [], _, _, _ => rfl
  | [], p :: r, _, _, h => by have := h p.1; rw [findR_here rfl] at this; cases this
  | p :: r, [], _, _, h => by have := h p.1; rw [findR_here rfl] at this; cases this
  | p :: r, q :: s, ha, hb, h => by
    have key : p.1 = q.1 := by
      apply Classical.byContradiction
      intro hn
      cases hl : ltS p.1 q.1 with
      | true =>
        have h1 := h p.1
        rw [findR_here rfl, findR_none (ps := q :: s) fun x hx e => by
          rcases List.mem_cons.1 hx with rfl | hx
          · exact hn e.symm
          · exact ltS_nee (ltS_trans hl (hb.head x hx)) e.symm] at h1
        cases h1
      | false =>
        have hl2 := ltS_total hl hn
        have h1 := h q.1
        rw [findR_here (p := q) rfl, findR_none (ps := p :: r) fun x hx e => by
          rcases List.mem_cons.1 hx with rfl | hx
          · exact hn e
          · exact ltS_nee (ltS_trans hl2 (ha.head x hx)) e.symm] at h1
        cases h1
    have hv := h p.1
    rw [findR_here rfl, findR_here (p := q) key.symm] at hv
    have e1 : p = q := Prod.ext key (by injection hv)
    have e2 : r = s := ext_find ha.tail hb.tail fun k => by
      by_cases e : p.1 = k
      · rw [findR_none fun x hx e2 => ltS_nee (ha.head x hx) (e.trans e2.symm), findR_none fun x hx e2 => ltS_nee (hb.head x hx) ((key.symm.trans e).trans e2.symm)]
      · have := h k
        rwa [findR_skip e, findR_skip (p := q) (by rw [← key]; exact e)] at this
    rw [e1, e2]

theorem overR_mem {q : ByteArray × T} : ∀ {m rest : Prs}, q ∈ overR rest m → q ∈ rest ∨ ∃ p ∈ m, p.1 = q.1 ∧ p.2.kind ≠ 0 ∧ ∃ t, (t = T.nil ∨ ∃ r ∈ rest, r.2 = t) ∧ q.2 = T.over t p.2
  | [], rest, h => by rw [overR_nil] at h; exact .inl h
  | p :: ps, rest, h => by
    rw [overR_cons] at h
    rcases List.mem_append.1 h with h | h
    · exact .inl (cutB_mem h)
    rcases List.mem_append.1 h with h | h
    · by_cases h0 : p.2.kind = 0
      · rw [if_pos h0] at h; cases h
      · rw [if_neg h0] at h
        obtain rfl : q = (p.1, T.over (cutH p.1 rest) p.2) := by simpa using h
        refine .inr ⟨p, by simp, rfl, h0, _, ?_, rfl⟩
        rcases cutH_mem p.1 rest with e | ⟨r, hr, _, e⟩
        · exact .inl e
        · exact .inr ⟨r, hr, e⟩
    · rcases overR_mem h with h | ⟨p', hp, h1, h2, t, ht, h3⟩
      · exact .inl (cutA_mem h)
      · refine .inr ⟨p', by simp [hp], h1, h2, t, ?_, h3⟩
        rcases ht with ht | ⟨r, hr, e⟩
        · exact .inl ht
        · exact .inr ⟨r, cutA_mem hr, e⟩
theorem diffR_mem {q : ByteArray × T} : ∀ {m rest : Prs}, q ∈ diffR rest m → ∃ r ∈ rest ++ m, r.1 = q.1
  | [], rest, h => by
    rw [diffR_nil] at h
    obtain ⟨⟨r, hr, e⟩, _⟩ := gone_mem h
    exact ⟨r, by simp [hr], e⟩
  | p :: ps, rest, h => by
    rw [diffR_cons] at h
    rcases List.mem_append.1 h with h | h
    · obtain ⟨⟨r, hr, e⟩, _⟩ := gone_mem h
      exact ⟨r, by simp [cutB_mem hr], e⟩
    rcases List.mem_append.1 h with h | h
    · exact ⟨p, by simp, (oneR_mem h).1.symm⟩
    · obtain ⟨r, hr, e⟩ := diffR_mem h
      rcases List.mem_append.1 hr with hr | hr
      · exact ⟨r, by simp [cutA_mem hr], e⟩
      · exact ⟨r, by simp [hr], e⟩

theorem overR_asc : ∀ {m rest : Prs}, Asc m → Asc rest → Asc (overR rest m)
  | [], rest, _, hr => by rw [overR_nil]; exact hr
  | p :: ps, rest, hm, hr => by
    have gt : ∀ q ∈ overR (cutA p.1 rest) ps, ltS p.1 q.1 = true := fun q hq => by
      rcases overR_mem hq with h | ⟨r, h, e, _⟩
      · exact cutA_gt hr h
      · rw [← e]; exact hm.head r h
    have mid : ∀ q ∈ (if p.2.kind = 0 then [] else [(p.1, T.over (cutH p.1 rest) p.2)] : Prs), q.1 = p.1 := fun q hq => by
      split at hq
      · cases hq
      · obtain rfl : q = (p.1, T.over (cutH p.1 rest) p.2) := by simpa using hq
        rfl
    rw [overR_cons]
    refine asc_append (cutB_asc hr) (asc_append ?_ (overR_asc hm.tail (cutA_asc hr)) fun x hx y hy => ?_) fun x hx y hy => ?_
    · split
      · exact List.Pairwise.nil
      · exact List.pairwise_singleton _ _
    · rw [mid x hx]; exact gt y hy
    · rcases List.mem_append.1 hy with hy | hy
      · rw [mid y hy]; exact cutB_lt hx
      · exact ltS_trans (cutB_lt hx) (gt y hy)
theorem diffR_asc : ∀ {m rest : Prs}, Asc m → Asc rest → Asc (diffR rest m)
  | [], rest, _, hr => by rw [diffR_nil]; exact gone_asc hr
  | p :: ps, rest, hm, hr => by
    have gt : ∀ q ∈ diffR (cutA p.1 rest) ps, ltS p.1 q.1 = true := fun q hq => by
      obtain ⟨r, h, e⟩ := diffR_mem hq
      rw [← e]
      rcases List.mem_append.1 h with h | h
      · exact cutA_gt hr h
      · exact hm.head r h
    have lt : ∀ q ∈ goneR (cutB p.1 rest), ltS q.1 p.1 = true := fun q hq => by
      obtain ⟨⟨r, h, e⟩, _⟩ := gone_mem hq
      rw [← e]; exact cutB_lt h
    rw [diffR_cons]
    refine asc_append (gone_asc (cutB_asc hr)) (asc_append (oneR_asc _ _) (diffR_asc hm.tail (cutA_asc hr)) fun x hx y hy => ?_) fun x hx y hy => ?_
    · rw [(oneR_mem hx).1]; exact gt y hy
    · rcases List.mem_append.1 hy with hy | hy
      · rw [(oneR_mem hy).1]; exact lt x hx
      · exact ltS_trans (lt x hx) (gt y hy)

/-- What stands under a key of the layer. -/
def diffAt (was : Option T) : Option T → Option T
  | none => was.map fun _ => T.nil
  | some x => chg (was.getD T.nil) x (T.diff (was.getD T.nil) x)

theorem diffR_find (key : ByteArray) : ∀ (m rest : Prs), Asc m → Asc rest → findR key (diffR rest m) = diffAt (findR key rest) (findR key m)
  | [], rest, _, _ => by rw [diffR_nil, gone_find]; rfl
  | p :: ps, rest, hm, hr => by
    have ih := diffR_find key ps (cutA p.1 rest) hm.tail (cutA_asc hr)
    rw [diffR_cons, findR_append, findR_append, gone_find]
    by_cases e : p.1 = key
    · subst e
      rw [findR_none (ps := cutB p.1 rest) fun q hq => ltS_nee (cutB_lt hq), findR_here (p := p) rfl]
      have n1 : findR p.1 ps = none := findR_none fun q hq e => ltS_nee (hm.head q hq) e.symm
      have n2 : findR p.1 (cutA p.1 rest) = none := findR_none fun q hq e => ltS_nee (cutA_gt hr hq) e.symm
      rw [n1, n2] at ih
      rw [diffAt, ← cutH_find hr]
      cases hc : chg (cutH p.1 rest) p.2 (T.diff (cutH p.1 rest) p.2) with
      | none =>
        show findR p.1 (diffR (cutA p.1 rest) ps) = _
        rw [ih]; rfl
      | some d =>
        rw [show findR p.1 (oneR p.1 (some d)) = some d from findR_here (p := (p.1, d)) rfl]
        rfl
    · have mid : findR key (oneR p.1 (chg (cutH p.1 rest) p.2 (T.diff (cutH p.1 rest) p.2))) = none := findR_none fun q hq e2 => e ((oneR_mem hq).1.symm.trans e2)
      rw [mid, findR_skip e]
      cases hl : ltS p.1 key with
      | true =>
        rw [findR_none (ps := cutB p.1 rest) fun q hq e2 => by
          have := cutB_lt hq
          rw [e2, ltS_asym hl] at this; cases this]
        show findR key (diffR (cutA p.1 rest) ps) = _
        rw [ih, cutA_find hl hr]
      | false =>
        have hk := ltS_total hl e
        have n1 : findR key ps = none := findR_none fun q hq e2 => by
          have := ltS_trans hk (hm.head q hq)
          rw [e2, ltS_irr] at this; cases this
        have n2 : findR key (cutA p.1 rest) = none := findR_none fun q hq e2 => by
          have := ltS_trans hk (cutA_gt hr hq)
          rw [e2, ltS_irr] at this; cases this
        rw [n1, n2] at ih
        rw [cutB_find hk hr, n1]
        cases hf : findR key rest with
        | some x => rfl
        | none =>
          show findR key (diffR (cutA p.1 rest) ps) = _
          rw [ih]

/-- A map's parts. -/
theorem map_parts {t : T} (h : t.parts = 0) (h5 : t.kind = 5) : t = .mk 5 false 0 ⟨#[]⟩ [] t.pairs ∧ Asc t.pairs ∧ ∀ q ∈ t.pairs, keyB q.1 = true ∧ q.2.parts = 0 := by
  obtain ⟨k, b, n, s, l, m⟩ := t
  obtain rfl : k = 5 := h5
  have P := parts_zero h
  obtain ⟨_, _, eb, en, es, el, _⟩ := kind_parts P.kind
  have e : (T.mk 5 b n s l m).pairs = m := pairs5 b n s l m
  rw [e, eb (by decide), en (by decide), es (by decide), el (by decide)]
  refine ⟨rfl, asc_of_rise m P.rise, fun q hq => ?_⟩
  obtain ⟨i, hi, rfl⟩ := List.getElem_of_mem hq
  exact ⟨P.keys i hi, P.map _ hq⟩
theorem parts_map5 {m : Prs} (ha : Asc m) (h : ∀ q ∈ m, keyB q.1 = true ∧ q.2.parts = 0) : (T.mk 5 false 0 ⟨#[]⟩ [] m).parts = 0 := by
  refine parts_ok ?_ (by decide) (by simp) fun i hi => ?_
  · unfold kindBad
    simp only [List.length_nil]
    have : (⟨#[]⟩ : ByteArray).toList.isEmpty = true := by rw [ByteArray.toList_eq]; rfl
    simp [this]
  · have hm := h m[i] (List.getElem_mem hi)
    rw [pcode_in m i hi hm.1 fun h0 => ?_]
    · exact hm.2
    · have hlt : ltS (m[i - 1]'(by omega)).1 m[i].1 = true := List.pairwise_iff_getElem.1 ha (i - 1) i (by omega) hi (by omega)
      rcases les_cases m[i].1 (m[i - 1]'(by omega)).1 with ⟨_, h1⟩ | ⟨_, _, h1⟩ | ⟨h1, _⟩
      · have : ltS m[i].1 (m[i - 1]'(by omega)).1 = true := h1
        rw [ltS_asym hlt] at this; cases this
      · exact absurd (toList_inj h1).symm (ltS_nee hlt)
      · exact h1
theorem nil_parts : T.nil.parts = 0 := by
  unfold T.nil
  refine parts_ok ?_ (by decide) (by simp) (by simp)
  unfold kindBad
  have : (⟨#[]⟩ : ByteArray).toList.isEmpty = true := by rw [ByteArray.toList_eq]; rfl
  simp [this]

/-- What is laid over what may be, and may be, may be. -/
theorem over_parts (u : T) : u.parts = 0 → ∀ t : T, t.parts = 0 → (T.over t u).parts = 0 := by
  induction u using T.ind with
  | h k b n s l m hl hm =>
    intro hu t ht
    by_cases h5 : k = 5
    · subst h5
      obtain ⟨e, ha, hq⟩ := map_parts hu rfl
      have e1 : (T.mk 5 b n s l m).pairs = m := pairs5 b n s l m
      rw [e1] at ha hq
      rw [over_map]
      have hr : Asc t.pairs ∧ ∀ q ∈ t.pairs, keyB q.1 = true ∧ q.2.parts = 0 := by
        by_cases hk : t.kind = 5
        · exact (map_parts ht hk).2
        · have : t.pairs = [] := by
            obtain ⟨k', b', n', s', l', m'⟩ := t
            exact pairs_ne b' n' s' l' m' hk
          rw [this]
          exact ⟨List.Pairwise.nil, fun q hq => by cases hq⟩
      refine parts_map5 (overR_asc ha hr.1) fun q hqo => ?_
      rcases overR_mem hqo with h | ⟨p, hp, h1, _, x, hx, h2⟩
      · exact hr.2 q h
      · rw [← h1, h2]
        refine ⟨(hq p hp).1, hm p hp (hq p hp).2 x ?_⟩
        rcases hx with rfl | ⟨r, hrm, rfl⟩
        · exact nil_parts
        · exact (hr.2 r hrm).2
    · rw [over_other _ b n s l m h5]; exact hu

theorem same_at (was now : Option T) (hw : ∀ y, was = some y → y.parts = 0) (hn : ∀ x, now = some x → x.kind ≠ 0 ∧ x.parts = 0) (ih : ∀ y x, was = some y → now = some x → y.kind = 5 → x.kind = 5 → ((T.diff y x).pairs.length = 0 ↔ y = x)) : diffAt was now = none ↔ was = now := by
  cases now with
  | none =>
    cases was with
    | none => exact ⟨fun _ => rfl, fun _ => rfl⟩
    | some y => exact ⟨fun h => (by cases h), fun h => (by cases h)⟩
  | some x =>
    obtain ⟨hx0, hxp⟩ := hn x rfl
    unfold diffAt chg
    cases was with
    | none =>
      simp only [Option.getD_none]
      have h1 : ¬ (T.nil.kind = 5 ∧ x.kind = 5) := fun h => absurd h.1 (by decide)
      rw [if_neg h1]
      have h2 : ¬ T.cmp T.nil x = 0 := fun h => by
        have := eq_of_cmp T.nil nil_parts x hxp h
        exact hx0 (by rw [← this]; rfl)
      rw [if_neg h2]
      exact ⟨fun h => (by cases h), fun h => (by cases h)⟩
    | some y =>
      simp only [Option.getD_some]
      by_cases h5 : y.kind = 5 ∧ x.kind = 5
      · rw [if_pos h5]
        have := ih y x rfl rfl h5.1 h5.2
        by_cases hl : (T.diff y x).pairs.length = 0
        · rw [if_pos hl]; exact ⟨fun _ => by rw [this.1 hl], fun _ => rfl⟩
        · rw [if_neg hl]; exact ⟨fun h => (by cases h), fun h => absurd (this.2 (by injection h)) hl⟩
      · rw [if_neg h5]
        by_cases hc : T.cmp y x = 0
        · rw [if_pos hc]; exact ⟨fun _ => by rw [eq_of_cmp y (hw y rfl) x hxp hc], fun _ => rfl⟩
        · rw [if_neg hc]; exact ⟨fun h => (by cases h), fun h => absurd (by injection h with h; rw [h, (T.ord x).refl]) hc⟩

/-- THE LAYER THAT MAKES u OUT OF t, laid over t, is u; and it is empty just if they are one. -/
theorem diff_main (u : T) : ∀ t, t.parts = 0 → u.parts = 0 → t.kind = 5 → u.kind = 5 → Pl t.pairs → Pl u.pairs → T.over t (T.diff t u) = u ∧ ((T.diff t u).pairs.length = 0 ↔ t = u) := by
  induction u using T.ind with
  | h k b n s l m hl hm =>
    intro t ht hu ht5 hu5 hpt hpu
    obtain rfl : k = 5 := hu5
    obtain ⟨eu, ua, uq⟩ := map_parts hu rfl
    obtain ⟨et, ta, tq⟩ := map_parts ht ht5
    have e1 : (T.mk 5 b n s l m).pairs = m := pairs5 b n s l m
    rw [e1] at ua uq hpu eu
    have h1 : ∀ key y, findR key t.pairs = some y → y.parts = 0 ∧ y.kind ≠ 0 ∧ T.over T.nil y = y := fun key y h => by
      obtain ⟨q, hq, _, rfl⟩ := findR_mem h
      exact ⟨(tq q hq).2, (hpt q hq).1, (hpt q hq).2⟩
    have h2 : ∀ key x, findR key m = some x → x.parts = 0 ∧ x.kind ≠ 0 ∧ T.over T.nil x = x ∧ ∀ y, y.parts = 0 → y.kind = 5 → x.kind = 5 → Pl y.pairs → T.over y (T.diff y x) = x ∧ ((T.diff y x).pairs.length = 0 ↔ y = x) := fun key x h => by
      obtain ⟨q, hq, _, rfl⟩ := findR_mem h
      exact ⟨(uq q hq).2, (hpu q hq).1, (hpu q hq).2, fun y hy hy5 hx5 hpy => hm q hq y hy (uq q hq).2 hy5 hx5 hpy (Pl.of_plain (hpu q hq).2)⟩
    have da := diffR_asc (rest := t.pairs) ua ta
    rw [diff_map t b n s l m ht5, over_map, eu]
    have e2 : ∀ r : Prs, (T.mk 5 false 0 ⟨#[]⟩ [] r).pairs = r := fun r => pairs5 _ _ _ _ r
    rw [e2]
    have at0 : ∀ key, diffAt (findR key t.pairs) (findR key m) = none ↔ findR key t.pairs = findR key m := fun key =>
      same_at _ _ (fun y h => (h1 key y h).1) (fun x h => ⟨(h2 key x h).2.1, (h2 key x h).1⟩) fun y x hy hx hy5 hx5 => ((h2 key x hx).2.2.2 y (h1 key y hy).1 hy5 hx5 (Pl.of_plain (h1 key y hy).2.2)).2
    constructor
    · congr 1
      refine ext_find (overR_asc da ta) ua fun key => ?_
      rw [overR_find key _ _ da ta, diffR_find key _ _ ua ta]
      have a0 := at0 key
      cases hd : diffAt (findR key t.pairs) (findR key m) with
      | none => rw [← a0.1 hd]; rfl
      | some d =>
        cases hx : findR key m with
        | none =>
          rw [hx] at hd
          unfold diffAt at hd
          cases hy : findR key t.pairs with
          | none => rw [hy] at hd; cases hd
          | some y =>
            rw [hy] at hd
            obtain rfl : T.nil = d := by injection hd
            exact overAt_zero _ rfl
        | some x =>
          obtain ⟨x1, x2, x3, x4⟩ := h2 key x hx
          rw [hx] at hd
          have hov : ∀ y : T, ¬ (y.kind = 5 ∧ x.kind = 5) → T.over y x = x := fun y hn => by
            by_cases hx5 : x.kind = 5
            · have hy5 : y.kind ≠ 5 := fun h => hn ⟨h, hx5⟩
              rw [over_pairs (t := y) (t' := T.nil) x (by obtain ⟨k', b', n', s', l', m'⟩ := y; exact pairs_ne b' n' s' l' m' hy5), x3]
            · obtain ⟨k', b', n', s', l', m'⟩ := x
              exact over_other y b' n' s' l' m' hx5
          unfold diffAt chg at hd
          dsimp only at hd
          by_cases h5 : ((findR key t.pairs).getD T.nil).kind = 5 ∧ x.kind = 5
          · rw [if_pos h5] at hd
            by_cases hlz : (T.diff ((findR key t.pairs).getD T.nil) x).pairs.length = 0
            · rw [if_pos hlz] at hd; cases hd
            · rw [if_neg hlz] at hd
              obtain rfl : T.diff ((findR key t.pairs).getD T.nil) x = d := by injection hd
              cases hy : findR key t.pairs with
              | none => rw [hy] at h5; exact absurd h5.1 (by decide)
              | some y =>
                rw [hy] at h5
                have hz := (x4 y (h1 key y hy).1 h5.1 h5.2 (Pl.of_plain (h1 key y hy).2.2)).1
                show overAt (some y) (some (T.diff y x)) = some x
                have hk0 : ¬ (T.diff y x).kind = 0 := by
                  rw [← over_kind y, hz]; exact x2
                rw [overAt_some _ hk0]
                exact congrArg some hz
          · rw [if_neg h5] at hd
            by_cases hc : T.cmp ((findR key t.pairs).getD T.nil) x = 0
            · rw [if_pos hc] at hd; cases hd
            · rw [if_neg hc] at hd
              obtain rfl : x = d := by injection hd
              rw [overAt_some _ x2]
              exact congrArg some (hov _ h5)
    · constructor
      · intro hz
        have hnil : diffR t.pairs m = [] := List.eq_nil_of_length_eq_zero hz
        rw [et]
        congr 1
        refine ext_find ta ua fun key => (at0 key).1 ?_
        rw [← diffR_find key _ _ ua ta, hnil]; rfl
      · intro htu
        have hp : t.pairs = m := by rw [htu, e2]
        have : diffR t.pairs m = [] := ext_find da List.Pairwise.nil fun key => by
          rw [diffR_find key _ _ ua ta]
          exact (at0 key).2 (by rw [hp])
        rw [this]; rfl

end Go.Proofs.YthjdeckdklhphaaGreatDoor
