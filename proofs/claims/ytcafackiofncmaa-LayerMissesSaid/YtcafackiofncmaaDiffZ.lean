/-
  Layers of what is laid: more of the trees alone.
-/
import Derived.Test.YtcafackiofncmaaDiffP
import Derived.Test.YtcafackiofncmaaOverZ
import Derived.Test.YtcafackiofncmaaLayP
set_option linter.unusedVariables false
namespace Go.Proofs.Ytcafackiofncmaa
open Go.RowKit Go.Sort

theorem gone_sz (m : Prs) : szR (goneR m) ≤ szR m := by
  induction m with
  | nil => simp [goneR, szR_nil]
  | cons p r ih =>
    have h := size_posL p.2
    show szR ((p.1, T.nil) :: goneR r) ≤ _
    rw [szR_cons, szR_cons]
    have : (p.1, T.nil).2.size = 1 := nil_size
    omega
theorem chg_sz {here x d : T} (hd : d.size + 1 ≤ here.size + x.size) (key : ByteArray) : szR (oneR key (chg here x d)) + 1 ≤ here.size + x.size := by
  have h1 := size_posL here
  have h2 := size_posL x
  unfold chg
  split
  · split
    · rw [oneR, szR_nil]; omega
    · rw [oneR, szR_cons, szR_nil]; dsimp only; omega
  · split
    · rw [oneR, szR_nil]; omega
    · rw [oneR, szR_cons, szR_nil]; dsimp only; omega
theorem diffR_sz {m : Prs} (ih : ∀ p ∈ m, ∀ t : T, (T.diff t p.2).size + 1 ≤ t.size + p.2.size) : ∀ rest : Prs, szR (diffR rest m) ≤ szR rest + szR m := by
  induction m with
  | nil => intro rest; rw [diffR_nil]; have := gone_sz rest; omega
  | cons p r ihr =>
    intro rest
    have h1 := ihr (fun q hq => ih q (by simp [hq])) (cutA p.1 rest)
    have h2 := cut_sz p.1 rest
    have h3 := chg_sz (ih p (by simp) (cutH p.1 rest)) p.1
    have h4 := gone_sz (cutB p.1 rest)
    rw [diffR_cons, szR_append, szR_append, szR_cons]
    omega
theorem diff_sz (u : T) : ∀ t : T, (T.diff t u).size + 1 ≤ t.size + u.size := by
  induction u using T.ind with
  | h k b n s l m hl hm =>
    intro t
    have hp := pairs_sz t
    have h0 := size_posL t
    by_cases h : t.kind = 5 ∧ k = 5
    · obtain ⟨ht, rfl⟩ := h
      have := diffR_sz hm t.pairs
      rw [diff_map t b n s l m ht, T.size_mk, T.size_mk]
      unfold szR at *
      simp only [List.map_nil, List.sum_nil]
      omega
    · rw [diff_other t (.mk k b n s l m) h]
      omega

/-- Laid over itself it is itself. -/
theorem over_self (t : T) : t.parts = 0 → Pl t.pairs → T.over t t = t := by
  induction t using T.ind with
  | h k b n s l m hl hm =>
    intro ht hp
    by_cases h5 : k = 5
    · subst h5
      obtain ⟨e, ha, hq⟩ := map_parts ht rfl
      rw [pairs5] at e ha hq hp
      have ih : ∀ key x, findR key m = some x → x.kind ≠ 0 ∧ T.over x x = x := fun key x hx => by
        obtain ⟨q, hqm, _, rfl⟩ := findR_mem hx
        exact ⟨(hp q hqm).1, hm q hqm (hq q hqm).2 (Pl.of_plain (hp q hqm).2)⟩
      rw [over_map, pairs5]
      conv => rhs; rw [e]
      congr 1
      refine ext_find (overR_asc ha ha) ha fun key => ?_
      rw [overR_find key _ _ ha ha]
      cases hx : findR key m with
      | none => rfl
      | some x =>
        obtain ⟨h0, h1⟩ := ih key x hx
        rw [overAt_some _ h0]
        exact congrArg some h1
    · exact over_other _ b n s l m h5
theorem over_none5 {t : T} (ht : t.parts = 0) (h5 : t.kind = 5) : T.over t T.none5 = t := by
  obtain ⟨e, _, _⟩ := map_parts ht h5
  unfold T.none5
  rw [over_map, overR_nil]
  exact e.symm
theorem none5_over (t : T) (h : stripped t) : T.over T.none5 t = t := (over_pairs (t := T.none5) (t' := T.nil) t rfl).trans h
/-- A stripped map. -/
structure Str (p : T) : Prop where
  parts : p.parts = 0
  kind : p.kind = 5
  pl : Pl p.pairs
  str : stripped p
theorem str_over (t : T) (ht : t.parts = 0) (h5 : t.kind = 5) : Str (T.over T.nil t) :=
  ⟨over_parts t ht T.nil nil_parts, by rw [over_kind]; exact h5, Pl.of_plain (over_idem t), over_idem t⟩
theorem Str.diff {p q : T} (hp : Str p) (hq : Str q) : T.over p (T.diff p q) = q := (diff_main q p hp.parts hq.parts hp.kind hq.kind hp.pl hq.pl).1
theorem Str.self {p : T} (hp : Str p) : T.over p p = p := over_self p hp.parts hp.pl
theorem Str.none {p : T} (hp : Str p) : T.diff p p = T.none5 := by
  have h := (diff_main p p hp.parts hp.parts hp.kind hp.kind hp.pl hp.pl).2.2 rfl
  have hk := hp.kind
  obtain ⟨k, b, n, s, l, m⟩ := p
  obtain rfl : k = 5 := hk
  rw [diff_map _ b n s l m rfl, pairs5] at h
  rw [diff_map _ b n s l m rfl, List.eq_nil_of_length_eq_zero h]
  rfl

end Go.Proofs.Ytcafackiofncmaa
