/-
  LayerLast, walked.
-/
import Derived.Test.YtfhonjjhladddaaLawEmptyM
import Derived.Test.YtfhonjjhladddaaDiffP
import Derived.Test.YtfhonjjhladddaaRCompareM
import Derived.Test.YtfhonjjhladddaaOpenM
set_option linter.unusedVariables false
set_option linter.unusedSimpArgs false
namespace Go.Proofs.Ytfhonjjhladddaa
open Go.RowKit Go.Sort

theorem over_pairs5 (t u : T) (h : u.kind = 5) : (T.over t u).pairs = overR t.pairs u.pairs := by
  obtain ⟨k, b, n, s, l, m⟩ := u
  obtain rfl : k = 5 := h
  rw [over_map, pairs5, pairs5]
theorem over_get {t u : T} (ht : t.parts = 0) (hu : u.parts = 0) (ht5 : t.kind = 5) (hu5 : u.kind = 5) (key : ByteArray) : (T.over t u).get key = overAt (t.get key) (u.get key) := by
  rw [T.get_find, over_pairs5 t u hu5]
  exact overR_find key _ _ (map_parts hu hu5).2.1 (map_parts ht ht5).2.1

end Go.Proofs.Ytfhonjjhladddaa

/-
  Layers of what is laid: more of the trees alone.
-/
set_option linter.unusedVariables false
namespace Go.Proofs.Ytfhonjjhladddaa
open Go.RowKit Go.Sort

theorem gone_sz (m : Prs) : szR (goneR m) ≤ szR m := by
  induction m with
  | nil => simp [goneR, szR_nil]
  | cons p r ih =>
    have h := size_posL p.2
    show szR ((p.1, T.nil) :: goneR r) ≤ _
    rw [szR_cons, szR_cons]
    have : (p.1, T.nil).2.size = 1 := nil_size
    omega
theorem chg_sz {here x d : T} (hd : d.size + 1 ≤ here.size + x.size) (key : ByteArray) : szR (oneR key (chg here x d)) + 1 ≤ here.size + x.size := by
  have h1 := size_posL here
  have h2 := size_posL x
  unfold chg
  split
  · split
    · rw [oneR, szR_nil]; omega
    · rw [oneR, szR_cons, szR_nil]; dsimp only; omega
  · split
    · rw [oneR, szR_nil]; omega
    · rw [oneR, szR_cons, szR_nil]; dsimp only; omega
theorem diffR_sz {m : Prs} (ih : ∀ p ∈ m, ∀ t : T, (T.diff t p.2).size + 1 ≤ t.size + p.2.size) : ∀ rest : Prs, szR (diffR rest m) ≤ szR rest + szR m := by
  induction m with
  | nil => intro rest; rw [diffR_nil]; have := gone_sz rest; omega
  | cons p r ihr =>
    intro rest
    have h1 := ihr (fun q hq => ih q (by simp [hq])) (cutA p.1 rest)
    have h2 := cut_sz p.1 rest
    have h3 := chg_sz (ih p (by simp) (cutH p.1 rest)) p.1
    have h4 := gone_sz (cutB p.1 rest)
    rw [diffR_cons, szR_append, szR_append, szR_cons]
    omega
theorem diff_sz (u : T) : ∀ t : T, (T.diff t u).size + 1 ≤ t.size + u.size := by
  induction u using T.ind with
  | h k b n s l m hl hm =>
    intro t
    have hp := pairs_sz t
    have h0 := size_posL t
    by_cases h : t.kind = 5 ∧ k = 5
    · obtain ⟨ht, rfl⟩ := h
      have := diffR_sz hm t.pairs
      rw [diff_map t b n s l m ht, T.size_mk, T.size_mk]
      unfold szR at *
      simp only [List.map_nil, List.sum_nil]
      omega
    · rw [diff_other t (.mk k b n s l m) h]
      omega

/-- Laid over itself it is itself. -/
theorem over_self (t : T) : t.parts = 0 → Pl t.pairs → T.over t t = t := by
  induction t using T.ind with
  | h k b n s l m hl hm =>
    intro ht hp
    by_cases h5 : k = 5
    · subst h5
      obtain ⟨e, ha, hq⟩ := map_parts ht rfl
      rw [pairs5] at e ha hq hp
      have ih : ∀ key x, findR key m = some x → x.kind ≠ 0 ∧ T.over x x = x := fun key x hx => by
        obtain ⟨q, hqm, _, rfl⟩ := findR_mem hx
        exact ⟨(hp q hqm).1, hm q hqm (hq q hqm).2 (Pl.of_plain (hp q hqm).2)⟩
      rw [over_map, pairs5]
      conv => rhs; rw [e]
      congr 1
      refine ext_find (overR_asc ha ha) ha fun key => ?_
      rw [overR_find key _ _ ha ha]
      cases hx : findR key m with
      | none => rfl
      | some x =>
        obtain ⟨h0, h1⟩ := ih key x hx
        rw [overAt_some _ h0]
        exact congrArg some h1
    · exact over_other _ b n s l m h5
theorem over_none5 {t : T} (ht : t.parts = 0) (h5 : t.kind = 5) : T.over t T.none5 = t := by
  obtain ⟨e, _, _⟩ := map_parts ht h5
  unfold T.none5
  rw [over_map, overR_nil]
  exact e.symm
theorem none5_over (t : T) (h : stripped t) : T.over T.none5 t = t := (over_pairs (t := T.none5) (t' := T.nil) t rfl).trans h
/-- A stripped map. -/
structure Str (p : T) : Prop where
  parts : p.parts = 0
  kind : p.kind = 5
  pl : Pl p.pairs
  str : stripped p
theorem str_over (t : T) (ht : t.parts = 0) (h5 : t.kind = 5) : Str (T.over T.nil t) :=
  ⟨over_parts t ht T.nil nil_parts, by rw [over_kind]; exact h5, Pl.of_plain (over_idem t), over_idem t⟩
theorem Str.diff {p q : T} (hp : Str p) (hq : Str q) : T.over p (T.diff p q) = q := (diff_main q p hp.parts hq.parts hp.kind hq.kind hp.pl hq.pl).1
theorem Str.self {p : T} (hp : Str p) : T.over p p = p := over_self p hp.parts hp.pl
theorem Str.none {p : T} (hp : Str p) : T.diff p p = T.none5 := by
  have h := (diff_main p p hp.parts hp.parts hp.kind hp.kind hp.pl hp.pl).2.2 rfl
  have hk := hp.kind
  obtain ⟨k, b, n, s, l, m⟩ := p
  obtain rfl : k = 5 := hk
  rw [diff_map _ b n s l m rfl, pairs5] at h
  rw [diff_map _ b n s l m rfl, List.eq_nil_of_length_eq_zero h]
  rfl

end Go.Proofs.Ytfhonjjhladddaa

/-
  Flat arguments of a lifted proof: a truth, a number, a text.
-/
set_option linter.unusedVariables false
set_option linter.unusedSimpArgs false
namespace Go.Proofs.Ytfhonjjhladddaa
open Go.ChangeShapes Go.WideShapes Go.ChangeAt Go.RowKit

set_option maxRecDepth 100000 in
theorem open_str {H : Type} {enc : TypeId × Value → H} {W : World} {sp : Nat → Bool} {base : Nat} {held : Bool} {v : Value} {d : DataW H} {ps : List MemPlace} {r : Reach} {b0 : Nat} (hval : Value.okWide Try.prog W r b0 9 v)
    (h : DataW.Trod enc Try.prog W base sp held 9 v d ps) (hs : SmallW Try.prog 9 d) : ∃ s : ByteArray, v = .string s ∧ s.size ≤ 140737488355328 := by
  obtain ⟨s, rfl⟩ := okWide_string Try.underlying9 hval
  obtain ⟨fuel, hf⟩ := h
  obtain ⟨s2, e, ex, _⟩ := DataW.trod_string Try.underlying9 hf
  refine ⟨s, rfl, ?_⟩
  have e2 : s2 = s := by
    have : (Value.string s).cells.toList = [.string s] := rfl
    rw [this] at e
    injection e with e
    injection e with e
    exact e.symm
  subst e2
  have ed : d = .lit (.string s2.data.toList) := by injection ex
  subst ed
  have h1 := small_string hs
  rw [reach_47] at h1
  have h2 : s2.size = s2.data.toList.length := rfl
  omega

set_option maxRecDepth 100000 in
theorem open_truth {W : World} {v : Value} {r : Reach} {b0 : Nat} (hval : Value.okWide Try.prog W r b0 4 v) : ∃ b, v = .bool b := okWide_bool Try.underlying4 hval

set_option maxRecDepth 100000 in
theorem open_number {H : Type} {enc : TypeId × Value → H} {W : World} {sp : Nat → Bool} {base : Nat} {held : Bool} {v : Value} {d : DataW H} {ps : List MemPlace} {r : Reach} {b0 : Nat} (hval : Value.okWide Try.prog W r b0 2 v)
    (h : DataW.Trod enc Try.prog W base sp held 2 v d ps) : ∃ n, v = .int .i64 n ∧ (Lit.int .i64 n).wf = true := by
  obtain ⟨n, rfl⟩ := okWide_int Try.underlying2 hval
  obtain ⟨fuel, hf⟩ := h
  obtain ⟨n2, e, _, hw⟩ := DataW.trod_int Try.underlying2 hf
  refine ⟨n, rfl, ?_⟩
  have : (Value.int .i64 n).cells.toList = [.int .i64 n] := rfl
  rw [this] at e
  injection e with e
  injection e with _ e
  rw [e]
  exact hw

set_option maxRecDepth 100000 in
theorem again_str {H : Type} {enc : TypeId × Value → H} {W W' : World} {v : Value} {d : DataW H} {ps : List MemPlace} (h : DataW.Trod enc Try.prog W 0 (fun _ => true) true 9 v d ps) (hb : Below W.heap.size W W') (hlt : ∀ x ∈ ps, x.block < W.heap.size) :
    DataW.Trod enc Try.prog W' 0 (fun b => decide (b < W.heap.size)) true 9 v d ps := Below.trod Try.laidOut (by kernel_rfl) (of_decide_eq_true (by kernel_rfl)) h hb hlt
set_option maxRecDepth 100000 in
theorem again_truth {H : Type} {enc : TypeId × Value → H} {W W' : World} {v : Value} {d : DataW H} {ps : List MemPlace} (h : DataW.Trod enc Try.prog W 0 (fun _ => true) true 4 v d ps) (hb : Below W.heap.size W W') (hlt : ∀ x ∈ ps, x.block < W.heap.size) :
    DataW.Trod enc Try.prog W' 0 (fun b => decide (b < W.heap.size)) true 4 v d ps := Below.trod Try.laidOut (by kernel_rfl) (of_decide_eq_true (by kernel_rfl)) h hb hlt
set_option maxRecDepth 100000 in
theorem again_number {H : Type} {enc : TypeId × Value → H} {W W' : World} {v : Value} {d : DataW H} {ps : List MemPlace} (h : DataW.Trod enc Try.prog W 0 (fun _ => true) true 2 v d ps) (hb : Below W.heap.size W W') (hlt : ∀ x ∈ ps, x.block < W.heap.size) :
    DataW.Trod enc Try.prog W' 0 (fun b => decide (b < W.heap.size)) true 2 v d ps := Below.trod Try.laidOut (by kernel_rfl) (of_decide_eq_true (by kernel_rfl)) h hb hlt

end Go.Proofs.Ytfhonjjhladddaa
