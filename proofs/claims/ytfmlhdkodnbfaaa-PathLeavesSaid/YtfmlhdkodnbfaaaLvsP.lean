/-
  What path.Leaves' closure keeps, step by step: no program is walked here.
-/
import Derived.Test.YtfmlhdkodnbfaaaLeafPM
set_option linter.unusedVariables false
set_option linter.unusedSimpArgs false
namespace Go.Proofs.Ytfmlhdkodnbfaaa
open Go.RowKit Go.Sort

theorem own_sameH {w w' : World} {base : Nat} {e : TypeId} {size : Nat} {v : Value} {n : Nat} {xs : List Value} (h : w.ownsRow base e size v n xs) (hk : ∀ g, v.ownBlock = some g → w'.heap[g]? = w.heap[g]?) : w'.ownsRow base e size v n xs := by
  refine ⟨h.1, ?_⟩
  rcases h.2 with h0 | ⟨g, cap, cur, rfl, hb, hg, h1⟩
  · exact .inl h0
  · exact .inr ⟨g, cap, cur, rfl, hb, (hk g rfl).trans hg, h1⟩
/-- Of an own row the first ones are one. -/
theorem own_front {w : World} {base : Nat} {e : TypeId} {g n cap : Nat} {xs : List Value} {y : Value} (h : w.ownsRow base e 1 (.slice (some ⟨g, 0, none⟩) (n + 1) cap) (n + 1) (xs ++ [y])) (hx : xs.length = n) : w.ownsRow base e 1 (.slice (some ⟨g, 0, none⟩) n cap) n xs := by
  refine ⟨by omega, ?_⟩
  rcases h.2 with ⟨h0, _⟩ | ⟨g', cap', cur, e', hb, hg, h1, h2, h3, h4⟩
  · cases h0
  · simp only [Value.slice.injEq, Option.some.injEq, Addr.mk.injEq, and_true, true_and] at e'
    obtain ⟨rfl, rfl⟩ := e'
    refine .inr ⟨g, cap, cur, rfl, hb, hg, by omega, h2, h3, ?_⟩
    have := congrArg (List.take n) h4
    rw [List.take_take, show min n ((n + 1) * 1) = n * 1 by omega, List.take_left' hx] at this
    exact this

/-- One more value behind an own row: in place, or in a row of its own. -/
theorem run_append_tail {P : Program} (w : World) (base : Nat) (t ty e : TypeId) (i : TypeInfo) (z : Value) (size bytes : Nat) (ht : P.underlying t = some (.slice e)) (hi : P.info? e = some i) (hz : i.zero = some z)
    (hsize : i.size = size) (hby : i.bytes = bytes) (hzs : z.cells.size = size) (hsz : 0 < size)
    (v : Value) (n : Nat) (xs : List Value) (hown : w.ownsRow base e size v n xs)
    (a : Addr) (c : Nat) (news : List Value) (hl : news.length = 1 * size) (hnews : ∀ j u, news[j]? = some u → w.cell? (a.add j) = some u) (h1 : ∀ u ∈ news, u.oneCell' = true)
    (h63 : n + 1 ≤ maxLen) (hbytes : (n + 1) * bytes ≤ 140737488355328) (hbase : base ≤ w.heap.size) :
    ∃ v' w', (Builtin.append_ #[t, t] ty #[v, .slice (some a) 1 c]).run P w = .ok v' w' ∧ w'.ownsRow base e size v' (n + 1) (xs ++ news) ∧ w.grownBy w' v.ownBlock ∧
      ((∃ g cap, v = .slice (some ⟨g, 0, none⟩) n cap ∧ v' = .slice (some ⟨g, 0, none⟩) (n + 1) cap) ∨ (v'.ownBlock = some w.heap.size ∧ w.grownBy w' none)) := by
  obtain ⟨v', w', hr, h2, h3, h4, h5⟩ := run_append_own_at (P := P) w base t ty e i z size bytes ht hi hz hsize hby hzs hsz v n xs hown a 1 c news hl hnews h1 h63 hbytes hbase
  refine ⟨v', w', hr, h2, h3, ?_⟩
  have hsmall : n + 1 ≤ 9223372036854775807 := by simp only [maxLen] at h63; omega
  subst hsize
  subst hby
  rcases hown.2 with ⟨rfl, rfl⟩ | ⟨g, cap, cur, rfl, hbg, hg, hnc, hcm, hcs, htake⟩
  · have hr2 := run_append_nil (P := P) w t ty e i z ht hi hz a 1 c news hl hnews (by omega) (by omega) (by omega)
    rw [hr2] at hr
    injection hr with e1 e2
    subst e1 e2
    exact .inr ⟨rfl, rfl, rfl, rfl, by simp, fun k hk _ => Below.heap_alloc _ _ k hk⟩
  · by_cases hroom : n + 1 ≤ cap
    · obtain ⟨w2, hr2, _, _⟩ := run_append_fits (P := P) w base t ty e i i.size ht hi rfl g n cap xs hown a 1 c news hl hnews h1 hroom
      rw [hr2] at hr
      injection hr with e1 e2
      exact .inl ⟨g, cap, rfl, e1.symm⟩
    · have holds : ∀ j u, xs[j]? = some u → w.cell? ((⟨g, 0, none⟩ : Addr).add j) = some u := hown.cells (g := g) rfl
      have hr2 := run_append_grow (P := P) w t ty e i z ht hi hz ⟨g, 0, none⟩ n cap xs hown.1 holds a 1 c news hl hnews (by omega) (by omega) (growslice_fits (by omega) hbytes)
      rw [hr2] at hr
      injection hr with e1 e2
      subst e1 e2
      exact .inr ⟨rfl, rfl, rfl, rfl, by simp, fun k hk _ => Below.heap_alloc _ _ k hk⟩

theorem WSt.later {B : Nat} {w w' : World} {lv sv : Value} {n : Nat} {xs : List Value} {ks : List ByteArray} (h : WSt B w lv sv n xs ks) (hb : Below w.heap.size w w') : WSt B w' lv sv n xs ks :=
  ⟨cells_frame hb h.cell, (hb.frozen (p := ⟨B, 0, none⟩) (World.block_lt_of_cell? _ _ h.cell)).trans h.thaw, cells_frame hb h.fn, own_sameH h.own fun g hg => hb.block g (h.own.lt g hg).2, own_sameH h.steps fun g hg => hb.block g (h.steps.lt g hg).2, h.apart, h.sizes⟩
theorem WSt.sizeB {B : Nat} {w : World} {lv sv : Value} {n : Nat} {xs : List Value} {ks : List ByteArray} (h : WSt B w lv sv n xs ks) : B + 2 ≤ w.heap.size := by
  have : B + 1 < w.heap.size := World.block_lt_of_cell? _ _ h.fn
  omega

/-- How the steps' row is written on. -/
inductive Tail (w : World) (n : Nat) (sv sv' : Value) (w' : World) : Prop where
  | same (g cap : Nat) (h1 : sv = .slice (some ⟨g, 0, none⟩) n cap) (h2 : sv' = .slice (some ⟨g, 0, none⟩) (n + 1) cap)
  | own (g : Nat) (h1 : sv'.ownBlock = some g) (h2 : w.heap.size ≤ g) (h3 : ∀ b, b < w.heap.size → w'.heap[b]? = w.heap[b]?)

/-- With one more step. -/
theorem WSt.push {B : Nat} {w w' : World} {lv sv sv' : Value} {n : Nat} {xs : List Value} {ks : List ByteArray} {key : ByteArray} (h : WSt B w lv sv n xs ks) (hrest : ∀ b, b < w.heap.size → sv.ownBlock ≠ some b → w'.heap[b]? = w.heap[b]?)
    (ht : Tail w ks.length sv sv' w') (hs : w'.ownsRow (B + 2) 9 1 sv' (ks ++ [key]).length ((ks ++ [key]).map Value.string)) (hk : key.size ≤ 140737488355328) : WSt B w' lv sv' n xs (ks ++ [key]) := by
  have hB := h.sizeB
  have nB : ∀ b, b < B + 2 → sv.ownBlock ≠ some b := fun b hb e => by have := (h.steps.lt b e).1; omega
  refine ⟨(World.cell?_of_block (a := ⟨B, 0, none⟩) (hrest B (by omega) (nB B (by omega)))).trans h.cell, (World.frozen?_of_block (a := ⟨B, 0, none⟩) (hrest B (by omega) (nB B (by omega)))).trans h.thaw, (World.cell?_of_block (a := ⟨B + 1, 0, none⟩) (hrest (B + 1) (by omega) (nB (B + 1) (by omega)))).trans h.fn, own_sameH h.own fun g hg => hrest g (h.own.lt g hg).2 (h.apart g hg), hs, fun g hg => ?_, fun i hi => ?_⟩
  · cases ht with
    | same g' cap h1 h2 =>
      have := h.apart g hg
      rw [h1] at this
      rw [h2]
      exact this
    | own g' h1 h2 h3 =>
      have := (h.own.lt g hg).2
      rw [h1]
      intro e
      injection e with e
      omega
  · by_cases hi2 : i < ks.length
    · rw [List.getElem_append_left hi2]; exact h.sizes i hi2
    · rw [List.getElem_append_right (by omega)]
      simp
      exact hk

/-- One more value under a key is done. -/
theorem WOut.step {B : Nat} {v wr w2 w3 : World} {lv sv lvj sv' lv3 : Value} {n : Nat} {xs : List Value} {ks : List ByteArray} {key : ByteArray} {ls ls' : Lvs} {Kj K3 : List LQ} (h0 : WSt B v lv sv n xs ks) (h : WOut B v lv sv n xs ks ls wr lvj Kj)
    (hbe : Below B wr w2) (hrest : ∀ b, b < wr.heap.size → sv.ownBlock ≠ some b → w2.heap[b]? = wr.heap[b]?) (ht : Tail wr ks.length sv sv' w2)
    (h3 : WOut B w2 lvj sv' (n + Kj.length) (xs ++ flatK Kj) (ks ++ [key]) ls' w3 lv3 K3) : WOut B v lv sv n xs ks (ls ++ ls'.map fun q => (key :: q.1, q.2)) w3 lv3 (Kj ++ K3) := by
  have hB := h0.sizeB
  have hvr := h.below.size
  have hr2 := hbe.size
  have hsv : ∀ g, sv.ownBlock = some g → B + 2 ≤ g ∧ g < v.heap.size := fun g hg => h0.steps.lt g hg
  have hlv : ∀ g, lv.ownBlock = some g → B + 2 ≤ g ∧ g < v.heap.size := fun g hg => h0.own.lt g hg
  have hlj : ∀ g, lvj.ownBlock = some g → g < wr.heap.size := fun g hg => (h.st.own.lt g hg).2
  have hsv' : ∀ g, sv'.ownBlock = some g → sv.ownBlock = some g ∨ wr.heap.size ≤ g := fun g hg => by
    cases ht with
    | same g' cap h1 h2 => left; rw [h1]; rw [h2] at hg; exact hg
    | own g' h1 h2 h4 => right; rw [h1] at hg; injection hg with hg; omega
  refine ⟨⟨h3.st.cell, h3.st.thaw, h3.st.fn, ?_, ?_, ?_, h0.sizes⟩, ?_, ?_, ?_, h.below.trans (hbe.trans h3.below), ?_⟩
  · have := h3.st.own
    rw [List.length_append, flatK_append, ← Nat.add_assoc, ← List.append_assoc]
    exact this
  · cases ht with
    | same g cap h1 h2 =>
      have h4 := h3.st.steps
      rw [h2, List.length_append, List.map_append] at h4
      rw [h1]
      exact own_front h4 (by simp)
    | own g h1 h2 h4 =>
      refine own_sameH h.st.steps fun b hb => ?_
      have hb2 := (h.st.steps.lt b hb).2
      have hb1 := (h.st.steps.lt b hb).1
      exact (h3.rest b (by omega) (by omega) (fun e => h.st.apart b e hb) (fun e => by rw [h1] at e; injection e with e; omega)).trans (h4 b hb2)
  · intro g hg
    rcases h3.blk with e | ⟨g', e, hg'⟩
    · rw [e] at hg
      exact h.st.apart g hg
    · rw [e] at hg
      injection hg with hg
      intro e2
      have := (hsv g e2).2
      omega
  · rcases h3.blk with e | ⟨g', e, hg'⟩
    · rw [e]; exact h.blk
    · exact .inr ⟨g', e, by omega⟩
  · rw [List.map_append, h.what, h3.what, List.map_append, List.map_map]
    congr 1
    refine List.map_congr_left fun q _ => ?_
    show (ks ++ [key] ++ q.1, q.2) = (ks ++ key :: q.1, q.2)
    rw [List.append_assoc]
    rfl
  · intro i hi
    by_cases hi2 : i < Kj.length
    · rw [List.getElem_append_left hi2]
      have e1 := (h.each i hi2).keep (w' := w2) fun b hb hlt => hrest b hlt fun e => by have := (hsv b e).2; omega
      refine (e1.keep (w' := w3) fun b hb hlt => h3.rest b hlt (by omega) hb.1.2.2 fun e => ?_).weaken fun b hb => ⟨hb.1.1.1, by have := h3.below.size; omega, fun e => ?_⟩
      · rcases hsv' b e with e | e
        · have := (hsv b e).2; omega
        · omega
      · rcases h3.blk with e2 | ⟨g', e2, hg'⟩
        · rw [e2] at e; exact hb.1.1.2.2 e
        · rw [e2] at e; injection e with e; omega
    · rw [List.getElem_append_right (by omega)]
      exact (h3.each _ _).weaken fun b hb => ⟨by omega, hb.2⟩
  · intro b hb hne hl hs
    refine (h3.rest b (by omega) hne (fun e => ?_) fun e => ?_).trans ((hrest b (by omega) hs).trans (h.rest b hb hne hl hs))
    · rcases h.blk with e2 | ⟨g', e2, hg'⟩
      · rw [e2] at e; exact hl e
      · rw [e2] at e; injection e with e; omega
    · rcases hsv' b e with e | e
      · exact hs e
      · omega

/-- One leaf is laid. -/
theorem WOut.leaf {B : Nat} {v wb : World} {lv sv lv' : Value} {n : Nat} {xs : List Value} {ks : List ByteArray} {t : T} {q : LQ} (h0 : WSt B v lv sv n xs ks) (hbe : Below B v wb) (hrest : ∀ b, b < v.heap.size → lv.ownBlock ≠ some b → wb.heap[b]? = v.heap[b]?)
    (hown : wb.ownsRow (B + 2) 35 7 lv' (n + 1) (xs ++ q.row.toList)) (hblk : lv'.ownBlock = lv.ownBlock ∨ ∃ g, lv'.ownBlock = some g ∧ v.heap.size ≤ g) (hq : LeafIn wb (fun b => v.heap.size ≤ b ∧ b < wb.heap.size ∧ lv'.ownBlock ≠ some b) q) (hp : q.path = ks) (hv : q.val = t) :
    WOut B v lv sv n xs ks [([], t)] (setRow wb B 0 [lv']) lv' [q] := by
  have hB := h0.sizeB
  have hsz := hbe.size
  have nB : ∀ b, b < B + 2 → lv.ownBlock ≠ some b := fun b hb e => by have := (h0.own.lt b e).1; omega
  have hk : ∀ b, b ≠ B → (setRow wb B 0 [lv']).heap[b]? = wb.heap[b]? := fun b hb => setRow_heap B [lv'] wb 0 b hb
  have c0 : wb.cell? ⟨B, 0, none⟩ = some lv := (World.cell?_of_block (a := ⟨B, 0, none⟩) (hrest B (by omega) (nB B (by omega)))).trans h0.cell
  refine ⟨⟨?_, ?_, ?_, ?_, ?_, ?_, h0.sizes⟩, hblk, ?_, ?_, ?_, ?_⟩
  · exact setRow_cell B [lv'] wb 0 (fun i hi => ⟨lv, (by obtain rfl : i = 0 := (by simpa using hi); exact c0)⟩) 0 (by simp)
  · exact (setRow_frozen B [lv'] wb 0 _).trans ((World.frozen?_of_block (a := ⟨B, 0, none⟩) (hrest B (by omega) (nB B (by omega)))).trans h0.thaw)
  · exact (World.cell?_of_block (a := ⟨B + 1, 0, none⟩) ((hk (B + 1) (by omega)).trans (hrest (B + 1) (by omega) (nB (B + 1) (by omega))))).trans h0.fn
  · rw [flatK_one]
    exact own_sameH hown fun g hg => hk g (by have := (hown.lt g hg).1; omega)
  · exact own_sameH h0.steps fun g hg => (hk g (by have := (h0.steps.lt g hg).1; omega)).trans (hrest g (h0.steps.lt g hg).2 fun e => h0.apart g e hg)
  · intro g hg
    rcases hblk with e | ⟨g', e, hg'⟩
    · rw [e] at hg; exact h0.apart g hg
    · rw [e] at hg
      injection hg with hg
      intro e2
      have := (h0.steps.lt g e2).2
      omega
  · simp [LQ.strip, hp, hv]
  · intro i hi
    obtain rfl : i = 0 := by simpa using hi
    have e : (setRow wb B 0 [lv']).heap.size = wb.heap.size := setRow_size B [lv'] wb 0
    exact (hq.keep (w' := setRow wb B 0 [lv']) fun b hb _ => hk b (by omega)).weaken fun b hb => ⟨hb.1.1, by rw [e]; exact hb.2, hb.1.2.2⟩
  · exact setRow_below B (Nat.le_refl _) [lv'] wb 0 hbe
  · intro b hb hne hl _
    exact (hk b hne).trans (hrest b hb hl)

/-- Behind the closure's own box. -/
theorem WOut.unbox {B : Nat} {w v w' : World} {lv sv lv' : Value} {n : Nat} {xs : List Value} {ks : List ByteArray} {ls : Lvs} {K : List LQ} (h : WOut B v lv sv n xs ks ls w' lv' K) (hv : Below w.heap.size w v) (hB : B ≤ w.heap.size) : WOut B w lv sv n xs ks ls w' lv' K := by
  have hsz := hv.size
  exact ⟨h.st, h.blk.imp id fun ⟨g, e, hg⟩ => ⟨g, e, by omega⟩, h.what, fun i hi => (h.each i hi).weaken fun b hb => ⟨by omega, hb.2⟩, (hv.mono hB).trans h.below, fun b hb hne hl hs => (h.rest b (by omega) hne hl hs).trans (hv.block b hb)⟩
theorem WOut.start {B : Nat} {w w' : World} {lv sv : Value} {n : Nat} {xs : List Value} {ks : List ByteArray} (h : WSt B w lv sv n xs ks) (hb : Below w.heap.size w w') : WOut B w lv sv n xs ks [] w' lv [] := by
  have hB := h.sizeB
  exact ⟨by have := h.later hb; simpa [flatK] using this, .inl rfl, rfl, fun i hi => absurd hi (by simp), hb.mono (by omega), fun b hlt _ _ _ => hb.block b hlt⟩
/-- How many leaves there are at most. -/
theorem leaves_size (t : T) : (leavesT t).length ≤ t.size := by
  induction t using T.ind with
  | _ k b n s l m hl hm =>
    rw [T.size_mk, leavesT]
    split
    · simp; omega
    · rw [List.length_flatten, List.map_map]
      have := sum_le_sum (l := m) (f := fun p => (leavesT p.2).length) (g := fun p => p.2.size) fun p hp => hm p hp
      have e : (m.map (List.length ∘ fun p => (leavesT p.2).map fun q => (p.1 :: q.1, q.2))) = m.map fun p => (leavesT p.2).length := List.map_congr_left fun p _ => by simp
      rw [e]
      omega

end Go.Proofs.Ytfmlhdkodnbfaaa
