/-
  LayerLast, walked.
-/
import Derived.Test.YtfhonjjhladddaaTruthM
import Derived.Test.YtfhonjjhladddaaDiffP
import Derived.Test.YtfhonjjhladddaaTwo
import Derived.Test.YtfhonjjhladddaaDiff
import Derived.Test.YtfhonjjhladddaaOpenM
set_option linter.unusedVariables false
set_option linter.unusedSimpArgs false
namespace Go.Proofs.Ytfhonjjhladddaa
open Go.RowKit Go.Sort

theorem over_pairs5 (t u : T) (h : u.kind = 5) : (T.over t u).pairs = overR t.pairs u.pairs := by
  obtain ⟨k, b, n, s, l, m⟩ := u
  obtain rfl : k = 5 := h
  rw [over_map, pairs5, pairs5]
theorem over_get {t u : T} (ht : t.parts = 0) (hu : u.parts = 0) (ht5 : t.kind = 5) (hu5 : u.kind = 5) (key : ByteArray) : (T.over t u).get key = overAt (t.get key) (u.get key) := by
  rw [T.get_find, over_pairs5 t u hu5]
  exact overR_find key _ _ (map_parts hu hu5).2.1 (map_parts ht ht5).2.1

end Go.Proofs.Ytfhonjjhladddaa

/-
  Layers of what is laid: more of the trees alone.
-/
set_option linter.unusedVariables false
namespace Go.Proofs.Ytfhonjjhladddaa
open Go.RowKit Go.Sort

theorem gone_sz (m : Prs) : szR (goneR m) ≤ szR m := by
  induction m with
  | nil => simp [goneR, szR_nil]
  | cons p r ih =>
    have h := size_posL p.2
    show szR ((p.1, T.nil) :: goneR r) ≤ _
    rw [szR_cons, szR_cons]
    have : (p.1, T.nil).2.size = 1 := nil_size
    omega
theorem chg_sz {here x d : T} (hd : d.size + 1 ≤ here.size + x.size) (key : ByteArray) : szR (oneR key (chg here x d)) + 1 ≤ here.size + x.size := by
  have h1 := size_posL here
  have h2 := size_posL x
  unfold chg
  split
  · split
    · rw [oneR, szR_nil]; omega
    · rw [oneR, szR_cons, szR_nil]; dsimp only; omega
  · split
    · rw [oneR, szR_nil]; omega
    · rw [oneR, szR_cons, szR_nil]; dsimp only; omega
theorem diffR_sz {m : Prs} (ih : ∀ p ∈ m, ∀ t : T, (T.diff t p.2).size + 1 ≤ t.size + p.2.size) : ∀ rest : Prs, szR (diffR rest m) ≤ szR rest + szR m := by
  induction m with
  | nil => intro rest; rw [diffR_nil]; have := gone_sz rest; omega
  | cons p r ihr =>
    intro rest
    have h1 := ihr (fun q hq => ih q (by simp [hq])) (cutA p.1 rest)
    have h2 := cut_sz p.1 rest
    have h3 := chg_sz (ih p (by simp) (cutH p.1 rest)) p.1
    have h4 := gone_sz (cutB p.1 rest)
    rw [diffR_cons, szR_append, szR_append, szR_cons]
    omega
theorem diff_sz (u : T) : ∀ t : T, (T.diff t u).size + 1 ≤ t.size + u.size := by
  induction u using T.ind with
  | h k b n s l m hl hm =>
    intro t
    have hp := pairs_sz t
    have h0 := size_posL t
    by_cases h : t.kind = 5 ∧ k = 5
    · obtain ⟨ht, rfl⟩ := h
      have := diffR_sz hm t.pairs
      rw [diff_map t b n s l m ht, T.size_mk, T.size_mk]
      unfold szR at *
      simp only [List.map_nil, List.sum_nil]
      omega
    · rw [diff_other t (.mk k b n s l m) h]
      omega

/-- Laid over itself it is itself. -/
theorem over_self (t : T) : t.parts = 0 → Pl t.pairs → T.over t t = t := by
  induction t using T.ind with
  | h k b n s l m hl hm =>
    intro ht hp
    by_cases h5 : k = 5
    · subst h5
      obtain ⟨e, ha, hq⟩ := map_parts ht rfl
      rw [pairs5] at e ha hq hp
      have ih : ∀ key x, findR key m = some x → x.kind ≠ 0 ∧ T.over x x = x := fun key x hx => by
        obtain ⟨q, hqm, _, rfl⟩ := findR_mem hx
        exact ⟨(hp q hqm).1, hm q hqm (hq q hqm).2 (Pl.of_plain (hp q hqm).2)⟩
      rw [over_map, pairs5]
      conv => rhs; rw [e]
      congr 1
      refine ext_find (overR_asc ha ha) ha fun key => ?_
      rw [overR_find key _ _ ha ha]
      cases hx : findR key m with
      | none => rfl
      | some x =>
        obtain ⟨h0, h1⟩ := ih key x hx
        rw [overAt_some _ h0]
        exact congrArg some h1
    · exact over_other _ b n s l m h5
theorem over_none5 {t : T} (ht : t.parts = 0) (h5 : t.kind = 5) : T.over t T.none5 = t := by
  obtain ⟨e, _, _⟩ := map_parts ht h5
  unfold T.none5
  rw [over_map, overR_nil]
  exact e.symm
theorem none5_over (t : T) (h : stripped t) : T.over T.none5 t = t := (over_pairs (t := T.none5) (t' := T.nil) t rfl).trans h
/-- A stripped map. -/
structure Str (p : T) : Prop where
  parts : p.parts = 0
  kind : p.kind = 5
  pl : Pl p.pairs
  str : stripped p
theorem str_over (t : T) (ht : t.parts = 0) (h5 : t.kind = 5) : Str (T.over T.nil t) :=
  ⟨over_parts t ht T.nil nil_parts, by rw [over_kind]; exact h5, Pl.of_plain (over_idem t), over_idem t⟩
theorem Str.diff {p q : T} (hp : Str p) (hq : Str q) : T.over p (T.diff p q) = q := (diff_main q p hp.parts hq.parts hp.kind hq.kind hp.pl hq.pl).1
theorem Str.self {p : T} (hp : Str p) : T.over p p = p := over_self p hp.parts hp.pl
theorem Str.none {p : T} (hp : Str p) : T.diff p p = T.none5 := by
  have h := (diff_main p p hp.parts hp.parts hp.kind hp.kind hp.pl hp.pl).2.2 rfl
  have hk := hp.kind
  obtain ⟨k, b, n, s, l, m⟩ := p
  obtain rfl : k = 5 := hk
  rw [diff_map _ b n s l m rfl, pairs5] at h
  rw [diff_map _ b n s l m rfl, List.eq_nil_of_length_eq_zero h]
  rfl

end Go.Proofs.Ytfhonjjhladddaa

/-
  LayerMisses, walked.
-/
set_option linter.unusedVariables false
set_option linter.unusedSimpArgs false
namespace Go.Proofs.Ytfhonjjhladddaa
open Go.RowKit Go.Sort

def IsV' (cs : Array Value) (x : Value) (_ : World) : Prop := x = .agg cs
theorem isV'_later (cs : Array Value) : ∀ x w w', Below w.heap.size w w' → IsV' cs x w → IsV' cs x w' := fun _ _ _ _ h => h
/-- A slice of one value, in a block of its own. -/
def OneV (v : World) (cs : Array Value) (x : Value) (w : World) : Prop := ∃ w1 : World, Below v.heap.size v w1 ∧ x = .slice (some ⟨w1.heap.size, 0, none⟩) 1 1 ∧ Below (w1.alloc (.cells cs 25)).heap.size (w1.alloc (.cells cs 25)) w
theorem oneV_later (v : World) (cs : Array Value) : ∀ x w w', Below w.heap.size w w' → OneV v cs x w → OneV v cs x w' := fun _ _ _ hb ⟨w1, h1, h2, h3⟩ => ⟨w1, h1, h2, bstep h3 hb h3.size⟩

theorem misses_at {p q : T} (hp : Str p) (hq : Str q) (key : ByteArray) : (T.diff p q).get key = diffAt (p.get key) (q.get key) ∧ (diffAt (p.get key) (q.get key) = none ↔ p.get key = q.get key) := by
  obtain ⟨_, pa, pq⟩ := map_parts hp.parts hp.kind
  obtain ⟨_, qa, qq⟩ := map_parts hq.parts hq.kind
  constructor
  · rw [T.get_find, T.get_find, T.get_find]
    have e : (T.diff p q).pairs = diffR p.pairs q.pairs := by
      have hk := hq.kind
      obtain ⟨k, b, n, s, l, m⟩ := q
      obtain rfl : k = 5 := hk
      rw [diff_map p b n s l m hp.kind, pairs5, pairs5]
    rw [e]
    exact diffR_find key _ _ qa pa
  · rw [T.get_find, T.get_find]
    have h1 : ∀ y, findR key p.pairs = some y → y.parts = 0 ∧ T.over T.nil y = y := fun y h => by
      obtain ⟨r, hr, _, rfl⟩ := findR_mem h
      exact ⟨(pq r hr).2, (hp.pl r hr).2⟩
    have h2 : ∀ x, findR key q.pairs = some x → x.parts = 0 ∧ x.kind ≠ 0 ∧ T.over T.nil x = x := fun x h => by
      obtain ⟨r, hr, _, rfl⟩ := findR_mem h
      exact ⟨(qq r hr).2, (hq.pl r hr).1, (hq.pl r hr).2⟩
    exact same_at _ _ (fun y h => (h1 y h).1) (fun x h => ⟨(h2 x h).2.1, (h2 x h).1⟩) fun y x hy hx hy5 hx5 => (diff_main x y (h1 y hy).1 (h2 x hx).1 hy5 hx5 (Pl.of_plain (h1 y hy).2) (Pl.of_plain (h2 x hx).2.2)).2

end Go.Proofs.Ytfhonjjhladddaa

/-
  The reference's Get.
-/
set_option linter.unusedVariables false
set_option linter.unusedSimpArgs false
namespace Go.Proofs.Ytfhonjjhladddaa
open Go.RowKit Go.Sort

theorem findR_at {key : ByteArray} : ∀ (m : Prs) (j : Nat) (hj : j < m.length), (∀ i (hi : i < m.length), i < j → m[i].1 ≠ key) → m[j].1 = key → findR key m = some m[j].2
  | p :: r, 0, _, _, he => findR_here he
  | p :: r, j + 1, hj, h0, he => by
    rw [findR_skip (by have := h0 0 (by simp) (by omega); exact this)]
    exact findR_at r j (by simpa using hj) (fun i hi hij => by have := h0 (i + 1) (by simpa using hi) (by omega); simpa using this) (by simpa using he)
theorem findR_no {key : ByteArray} {m : Prs} (h : ∀ i (hi : i < m.length), i < m.length → m[i].1 ≠ key) : findR key m = none := findR_none fun q hq => by
  obtain ⟨i, hi, rfl⟩ := List.getElem_of_mem hq
  exact h i hi hi

/-- What the reference's Get hands back. -/
def RGot (w0 : World) (R : Nat → Prop) (w : World) (r : Option T) (e : Ending) (w' : World) : Prop := ∃ ds, e = .returned (.tuple #[.agg ds, .bool r.isSome]) ∧ Lies w' (fun b => R b ∧ b < w0.heap.size) (r.getD T.nil) ds ∧ Below w.heap.size w w'

set_option maxRecDepth 100000 in
set_option maxHeartbeats 2000000 in
theorem rGet_any {w0 : World} {R : Nat → Prop} {t : T} {cs : Array Value} (h : Lies w0 R t cs) (key : ByteArray) (w : World) (hw : Below w0.heap.size w0 w) :
    Calls Try.prog 9 #[.agg cs, .string key] w (RGot w0 R w (findR key t.map)) := by
  cases h with
  | mk k b n s l m la lc ma mc cl cm hk hn hs hl hm rl rm ks il im =>
    have HM : Hid (SliceP w0 R m ma mc cm) := ⟨hm, rm, ks, im⟩
    have FA := Lib.hid (findR_at (key := key) m)
    have FN := Lib.hid (findR_no (key := key) (m := m))
    have hle := hm.le
    have hbig := hm.big
    have hmap : (T.mk k b n s l m).map = m := rfl
    rw [hmap]
    have A2 := Lib.hid (((Below.refl w.heap.size w).alloc (Nat.le_refl _) (.cells #[.int .i64 k, .bool b, .int .i64 n, .string s, .slice la l.length lc, .slice ma m.length mc] 25)).alloc (by simp) (.cells #[.int .i64 0, .bool false, .int .i64 0, .string ⟨#[]⟩, .slice none 0 0, .slice none 0 0] 25))
    obtain ⟨y3, y4, _, hlt⟩ := alloc_snd (v := w) (cs := #[.int .i64 k, .bool b, .int .i64 n, .string s, .slice la l.length lc, .slice ma m.length mc]) (zs := #[.int .i64 0, .bool false, .int .i64 0, .string ⟨#[]⟩, .slice none 0 0, .slice none 0 0]) (ty := 25) (tz := 25) (Below.refl _ _)
    have x5 : ((w.alloc (.cells #[.int .i64 k, .bool b, .int .i64 n, .string s, .slice la l.length lc, .slice ma m.length mc] 25)).alloc (.cells #[.int .i64 0, .bool false, .int .i64 0, .string ⟨#[]⟩, .slice none 0 0, .slice none 0 0] 25)).cell? ⟨w.heap.size, 5, none⟩ = some (.slice ma m.length mc) := (one_boxL ((Below.refl _ _).alloc (Nat.le_refl _) _)).1 5
    clear hk hn hs hl hm rl rm ks il im hmap
    obtain ⟨dd, hu, hdd⟩ := Try.structV
    have DD := Lib.hid hdd
    have HU := Lib.hid hu
    clear hu hdd
    go_enter Try.func9, Try.ntmps9
    go_wp2_with fail
    generalize hv : (w.alloc (.cells #[.int .i64 k, .bool b, .int .i64 n, .string s, .slice la l.length lc, .slice ma m.length mc] 25)).alloc (.cells #[.int .i64 0, .bool false, .int .i64 0, .string ⟨#[]⟩, .slice none 0 0, .slice none 0 0] 25) = v at *
    have Y3 := Lib.hid y3
    have Y4 := Lib.hid y4
    have HLT := Lib.hid hlt
    have HW := Lib.hid (bstep hw A2.out hw.size)
    clear hv y3 y4 hlt
    go_loopw [6] (fun vi wr => ∃ j : Nat, j ≤ m.length ∧ vi = .int .i64 j ∧ Hid (∀ i (hi : i < m.length), i < j → m[i].1 ≠ key) ∧ wr = v) (fun vi _ => m.length - (intOf vi).toNat)
    case atStart => exact ⟨0, by omega, rfl, fun i _ hi => absurd hi (Nat.not_lt_zero _), rfl⟩
    case round =>
      obtain ⟨j, hj, rfl, h0, rfl⟩ := hrel
      by_cases hjl : j < m.length
      · obtain ⟨bl, ol, c0, c1, c2, c3, c4, c4l, c4c, c5, c5l, c5c, rfl, hc, r0, r1, r2, r3, r4, r5, r6⟩ := openM HW.out HM.out.hdr HM.out.rows hjl (HM.out.each j hjl)
        have hLx := HM.out.each j hjl
        rw [hc] at hLx
        have HLX := Lib.hid hLx
        clear hc hLx
        by_cases he : m[j].1 = key
        · have f1 : (m[j].1.toList == key.toList) = true := by rw [he]; simp
          have HE := Lib.hid (FA.out j hjl h0.out he)
          have z2 := Y3.out
          have f2 := Y4.out
          clear he
          go_wp2_with fail
          rw [HE.out]
          have hl2 := HLT.out
          refine ret_cells_tmp wr (w.heap.size + 1) [.int .i64 c0, .bool c1, .int .i64 c2, .string c3, .slice c4 c4l c4c, .slice c5 c5l c5c] rfl Try.results9 rfl rfl DD.out HU.out Try.sizeV (fun i hi => ⟨_, (Y3.out i).trans (Array.getElem?_eq_getElem (show i < 6 from hi))⟩) ?_
          exact ⟨_, rfl, ((HLX.out.bound.later HW.out).keep (fun x hx => setRow_heap _ [.int .i64 c0, .bool c1, .int .i64 c2, .string c3, .slice c4 c4l c4c, .slice c5 c5l c5c] _ _ _ (by have := hx.2; have := hw.size; omega))), setRow_below _ (by omega) [.int .i64 c0, .bool c1, .int .i64 c2, .string c3, .slice c4 c4l c4c, .slice c5 c5l c5c] _ _ A2.out⟩
        · have f1 := str_ne he
          have H1 : Hid (∀ i (hi : i < m.length), i < j + 1 → m[i].1 ≠ key) := fun i hi hij => by
            by_cases e : i = j
            · subst e; exact he
            · exact h0.out i hi (by omega)
          clear he
          go_wp2_with fail
          go_roundw
          case rel => exact ⟨j + 1, by omega, by go_num, H1, trivial⟩
          case measure => simp [intOf]; omega
      · obtain rfl : j = m.length := by omega
        have HE := Lib.hid (FN.out h0.out)
        have z2 := Y3.out
        have f2 := Y4.out
        go_wp2_with fail
        rw [HE.out]
        have hl2 := HLT.out
        refine ret_cells_tmp wr (w.heap.size + 1) [.int .i64 0, .bool false, .int .i64 0, .string ⟨#[]⟩, .slice none 0 0, .slice none 0 0] rfl Try.results9 rfl rfl DD.out HU.out Try.sizeV (fun i hi => ⟨_, (Y3.out i).trans (Array.getElem?_eq_getElem (show i < 6 from hi))⟩) ?_
        exact ⟨_, rfl, nil_lies _ _, setRow_below _ (by omega) [.int .i64 0, .bool false, .int .i64 0, .string ⟨#[]⟩, .slice none 0 0, .slice none 0 0] _ _ A2.out⟩

end Go.Proofs.Ytfhonjjhladddaa
