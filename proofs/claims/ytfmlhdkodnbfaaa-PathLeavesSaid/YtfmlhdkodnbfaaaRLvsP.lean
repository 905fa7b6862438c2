/-
  An own slice of the reference's leaves, as it grows: no program is walked here.
-/
import Derived.Test.YtfmlhdkodnbfaaaLvsLM
import Derived.Test.YtfmlhdkodnbfaaaLeafD
set_option linter.unusedVariables false
set_option linter.unusedSimpArgs false
namespace Go.Proofs.Ytfmlhdkodnbfaaa
open Go.RowKit Go.Sort

theorem Try.infoRLeaf : (Try.prog.info? 36).map (fun i => (i.zero, i.size, i.bytes)) = some (some (.agg #[.slice none 0 0, .int .i64 0, .bool false, .int .i64 0, .string ⟨#[]⟩, .slice none 0 0, .slice none 0 0]), 7, 112) := by kernel_rfl

structure OwnK (S : Nat → Prop) (base : Nat) (w : World) (v : Value) (K : List LQ) : Prop where
  own : w.ownsRow base 36 7 v K.length (flatK K)
  each : ∀ i (h : i < K.length), LeafIn w (fun b => S b ∨ (base ≤ b ∧ b < w.heap.size ∧ v.ownBlock ≠ some b)) K[i]
theorem OwnK.nil (S : Nat → Prop) (base : Nat) (w : World) : OwnK S base w (.slice none 0 0) [] := ⟨World.ownsRow_nil w base 36 7, fun i h => absurd h (by simp)⟩
theorem OwnK.kept {S : Nat → Prop} {base : Nat} {w w' : World} {v : Value} {K : List LQ} (h : OwnK S base w v K) (hk : ∀ b, b < w.heap.size → w'.heap[b]? = w.heap[b]?) (hs : w.heap.size ≤ w'.heap.size) : OwnK S base w' v K :=
  ⟨own_sameH h.own fun g hg => hk g (h.own.lt g hg).2, fun i hi => ((h.each i hi).keep fun b _ hlt => hk b hlt).weaken fun b hb => hb.1.imp id fun ⟨h1, h2, h3⟩ => ⟨h1, by omega, h3⟩⟩
theorem OwnK.later {S : Nat → Prop} {base : Nat} {w w' : World} {v : Value} {K : List LQ} (h : OwnK S base w v K) (hb : Below w.heap.size w w') : OwnK S base w' v K := h.kept (fun b hlt => hb.block b hlt) hb.size
/-- One more. -/
theorem OwnK.one {S : Nat → Prop} {base : Nat} {w w' : World} {v v' : Value} {K : List LQ} {q : LQ} (h : OwnK S base w v K) (hS : ∀ b, S b → b < base) (hq : LeafIn w (fun b => S b ∨ (base ≤ b ∧ b < w.heap.size ∧ v.ownBlock ≠ some b)) q)
    (own : w'.ownsRow base 36 7 v' (K.length + 1) (flatK K ++ q.row.toList)) (hg : w.grownBy w' v.ownBlock) (hob : v'.ownBlock = v.ownBlock ∨ v'.ownBlock = some w.heap.size) : OwnK S base w' v' (K ++ [q]) := by
  have wk : ∀ {q : LQ}, LeafIn w (fun b => S b ∨ (base ≤ b ∧ b < w.heap.size ∧ v.ownBlock ≠ some b)) q → LeafIn w' (fun b => S b ∨ (base ≤ b ∧ b < w'.heap.size ∧ v'.ownBlock ≠ some b)) q := fun hl =>
    (hl.keep (w' := w') fun b hR hlt => hg.block b hlt fun e => by
      rcases hR with hR | ⟨_, _, hR⟩
      · have := hS b hR
        have h2 := (h.own.lt b e.symm).1
        omega
      · exact hR e.symm).weaken fun b hb => hb.1.imp id fun ⟨h1, h2, h3⟩ => ⟨h1, by have := hg.size; omega, by
        rcases hob with e | e
        · rw [e]; exact h3
        · rw [e]; intro hx; injection hx with hx; omega⟩
  refine ⟨by rw [List.length_append, flatK_append, flatK_one]; exact own, fun i hi => ?_⟩
  by_cases hi2 : i < K.length
  · rw [List.getElem_append_left hi2]; exact wk (h.each i hi2)
  · rw [List.getElem_append_right (by omega)]
    have : i - K.length = 0 := by simp at hi; omega
    simp only [this, List.getElem_cons_zero]
    exact wk hq
/-- Its rows. -/
theorem own_rows {w : World} {base : Nat} {e : TypeId} {v : Value} {K : List LQ} (hown : w.ownsRow base e 7 v K.length (flatK K)) (h7 : ∀ i (h : i < K.length), (K[i]).row.size = 7) : ∃ a c, v = .slice a K.length c ∧ (a = none → c = 0) ∧ K.length ≤ c ∧ (0 < K.length → ∃ b off, a = some ⟨b, off, none⟩) ∧ ∀ i (h : i < K.length), ∀ b off, a = some ⟨b, off, none⟩ → Row w b (off + i * 7) (K[i]).row := by
  have hrow : ∀ d ∈ K.map LQ.row, d.size = 7 := fun d hd => by
    obtain ⟨q, hq, rfl⟩ := List.mem_map.1 hd
    obtain ⟨i, hi, rfl⟩ := List.getElem_of_mem hq
    exact h7 i hi
  rcases hown.2 with ⟨e, hn⟩ | ⟨g', cap', cur, e, hbg, hgc, hnc, hcm, hcs, htake⟩
  · have hK : K = [] := List.eq_nil_of_length_eq_zero hn
    subst hK
    exact ⟨none, 0, e, fun _ => rfl, by simp, fun hp => absurd hp (by simp), fun i hi => absurd hi (by simp)⟩
  · subst e
    refine ⟨_, _, rfl, (fun e => by cases e), hnc, fun _ => ⟨g', 0, rfl⟩, fun i hi b off e k hk => ?_⟩
    simp only [Option.some.injEq, Addr.mk.injEq, and_true] at e
    obtain ⟨rfl, rfl⟩ := e
    have hi2 : i < (K.map LQ.row).length := by simpa using hi
    have er : (K.map LQ.row)[i] = (K[i]).row := by simp
    have hk7 : k < ((K.map LQ.row)[i]).size := by rw [er]; exact hk
    have h7 := hrow _ (List.getElem_mem hi2)
    have := flat_get (K.map LQ.row) hrow i hi2 k hk7
    rw [Nat.zero_add, hown.cellAt (i * 7 + k) (by omega), flatK, this]
    exact congrArg some (get_congr er k _ _)

/-- While the leaves of one value are laid behind others: what was there ahead (w5) is, but for the row v0. -/
structure InK (S : Nat → Prop) (base : Nat) (w5 : World) (v0 : Value) (wx : World) (vx : Value) (K : List LQ) : Prop where
  ok : OwnK S base wx vx K
  blk : vx.ownBlock = v0.ownBlock ∨ ∃ g, vx.ownBlock = some g ∧ w5.heap.size ≤ g
  rest : ∀ b, b < w5.heap.size → v0.ownBlock ≠ some b → wx.heap[b]? = w5.heap[b]?
  below : Below base w5 wx
theorem InK.start {S : Nat → Prop} {base : Nat} {w5 : World} {v0 : Value} {K : List LQ} (h : OwnK S base w5 v0 K) : InK S base w5 v0 w5 v0 K := ⟨h, .inl rfl, fun _ _ _ => rfl, Below.refl _ _⟩
theorem InK.step {S : Nat → Prop} {base : Nat} {w5 wx w1 w2 : World} {v0 vx v2 : Value} {K : List LQ} {q : LQ} (h : InK S base w5 v0 wx vx K) (hS : ∀ b, S b → b < base) (hb : Below wx.heap.size wx w1) (hbase : base ≤ wx.heap.size)
    (hq : LeafIn w1 (fun b => S b ∨ (base ≤ b ∧ b < w1.heap.size ∧ vx.ownBlock ≠ some b)) q) (own : w2.ownsRow base 36 7 v2 (K.length + 1) (flatK K ++ q.row.toList)) (hg : w1.grownBy w2 vx.ownBlock) (hob : v2.ownBlock = vx.ownBlock ∨ v2.ownBlock = some w1.heap.size) : InK S base w5 v0 w2 v2 (K ++ [q]) := by
  have h1 := h.below.size
  have h2 := hb.size
  refine ⟨(h.ok.later hb).one hS hq own hg hob, ?_, fun b hlt hne => ?_, h.below.trans ((hb.mono hbase).grown hg (by omega) fun g hg2 => (h.ok.own.lt g hg2).1)⟩
  · rcases hob with e | e
    · rw [e]; exact h.blk
    · exact .inr ⟨_, e, by omega⟩
  · refine (hg.block b (by omega) fun e => ?_).trans ((hb.block b (by omega)).trans (h.rest b hlt hne))
    rcases h.blk with e2 | ⟨g, e2, hg2⟩
    · rw [e2] at e; exact hne e.symm
    · rw [e2] at e; injection e with e; omega
/-- What the leaves of the one value are, there. -/
theorem InK.other {S : Nat → Prop} {base B5 : Nat} {w5 wx : World} {v0 vx v5 : Value} {K K5 : List LQ} (h : InK S base w5 v0 wx vx K) (hS : ∀ b, S b → b < base) (hv0 : ∀ g, v0.ownBlock = some g → base ≤ g ∧ g < B5) (h5 : OwnK S B5 w5 v5 K5) (hB : base ≤ B5) :
    wx.ownsRow B5 36 7 v5 K5.length (flatK K5) ∧ ∀ i (hi : i < K5.length), LeafIn wx (fun b => S b ∨ (base ≤ b ∧ b < wx.heap.size ∧ vx.ownBlock ≠ some b)) K5[i] := by
  have hsz := h.below.size
  refine ⟨own_sameH h5.own fun g hg => h.rest g (h5.own.lt g hg).2 fun e => by have := (hv0 g e).2; have := (h5.own.lt g hg).1; omega, fun i hi => ?_⟩
  refine ((h5.each i hi).keep (w' := wx) fun b hR hlt => h.rest b hlt fun e => ?_).weaken fun b hb => ?_
  · have h1 := hv0 b e
    rcases hR with hR | ⟨hR, _⟩
    · have := hS b hR; omega
    · omega
  · rcases hb with ⟨hR | ⟨h1, h2, h3⟩, hlt⟩
    · exact .inl hR
    · refine .inr ⟨by omega, by omega, fun e => ?_⟩
      rcases h.blk with e2 | ⟨g, e2, hg2⟩
      · rw [e2] at e; have := (hv0 b e).2; omega
      · rw [e2] at e; injection e with e; omega
def RLvIn (w0 w : World) (ls : Lvs) (e : Ending) (w' : World) : Prop := ∃ v K, e = .returned v ∧ OwnK (fun b => b < w0.heap.size) w.heap.size w' v K ∧ K.map LQ.strip = ls ∧ Below w.heap.size w w'

end Go.Proofs.Ytfmlhdkodnbfaaa
