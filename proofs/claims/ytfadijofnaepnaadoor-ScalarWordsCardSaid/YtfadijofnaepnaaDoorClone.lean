/-
  Clones: the same value, in memory of its own.
-/
import Derived.Test.YtfadijofnaepnaaDoorVals
set_option linter.unusedVariables false
set_option linter.unusedSimpArgs false
namespace Go.Proofs.YtfadijofnaepnaaDoor
open Go.RowKit

theorem Lies.keep {w w' : World} {R : Nat → Prop} {t : T} {cs : Array Value} (h : Lies w R t cs) (hk : ∀ b, R b → w'.heap[b]? = w.heap[b]?) : Lies w' R t cs := by
  induction h with
  | mk k b n s l m la lc ma mc cl cm hk' hn hs hl hm rl rm ks il im ihl ihm =>
    refine .mk k b n s l m la lc ma mc cl cm hk' hn hs hl hm (fun i hi bl ol e => ?_) (fun i hi bl ol e => ?_) ks ihl ihm
    · obtain ⟨b', o', e', hR⟩ := hl.some (by omega)
      have r := rl i hi bl ol e
      rw [e] at e'
      cases e'
      exact fun j hj => (World.cell?_of_block (w := w) (a := ⟨bl, _, none⟩) (hk bl hR)).trans (r j hj)
    · obtain ⟨b', o', e', hR⟩ := hm.some (by omega)
      have r := rm i hi bl ol e
      rw [e] at e'
      cases e'
      exact fun j hj => (World.cell?_of_block (w := w) (a := ⟨bl, _, none⟩) (hk bl hR)).trans (r j hj)

theorem Lies.bound {w : World} {R : Nat → Prop} {t : T} {cs : Array Value} (h : Lies w R t cs) : Lies w (fun b => R b ∧ b < w.heap.size) t cs := by
  induction h with
  | mk k b n s l m la lc ma mc cl cm hk' hn hs hl hm rl rm ks il im ihl ihm =>
    refine .mk k b n s l m la lc ma mc cl cm hk' hn hs ⟨hl.le, hl.big, hl.none, fun hp => ?_, hl.max⟩ ⟨hm.le, hm.big, hm.none, fun hp => ?_, hm.max⟩ rl rm ks ihl ihm
    · obtain ⟨bl, ol, e, hR⟩ := hl.some hp
      have r := rl 0 hp bl ol e
      obtain ⟨c0, c1, c2, c3, c4, c5, c6, c7, c8, c9, hc⟩ := (il 0 hp).six
      exact ⟨bl, ol, e, hR, r.lt (by rw [hc]; simp)⟩
    · obtain ⟨bl, ol, e, hR⟩ := hm.some hp
      have r := rm 0 hp bl ol e
      exact ⟨bl, ol, e, hR, r.lt (by simp; omega)⟩

theorem Lies.keepB {w w' : World} {R : Nat → Prop} {t : T} {cs : Array Value} (h : Lies w R t cs) (hk : ∀ b, R b → b < w.heap.size → w'.heap[b]? = w.heap[b]?) : Lies w' (fun b => R b ∧ b < w.heap.size) t cs :=
  h.bound.keep fun b hb => hk b hb.1 hb.2

theorem Hdr.weaken {R R' : Nat → Prop} (hR : ∀ b, R b → R' b) {bytes : Nat} {a : Option Addr} {len cap : Nat} (h : Hdr R bytes a len cap) : Hdr R' bytes a len cap :=
  ⟨h.le, h.big, h.none, fun hp => let ⟨b, o, e, hb⟩ := h.some hp; ⟨b, o, e, hR b hb⟩, h.max⟩

theorem Lies.weaken {w : World} {R R' : Nat → Prop} (hR : ∀ b, R b → R' b) {t : T} {cs : Array Value} (h : Lies w R t cs) : Lies w R' t cs := by
  induction h with
  | mk k b n s l m la lc ma mc cl cm hk' hn hs hl hm rl rm ks il im ihl ihm =>
    exact .mk k b n s l m la lc ma mc cl cm hk' hn hs (Hdr.weaken hR hl) (Hdr.weaken hR hm) rl rm ks ihl ihm

theorem cells_frame {w w' : World} (hb : Below w.heap.size w w') {b o : Nat} {v : Value} (h : w.cell? ⟨b, o, none⟩ = some v) : w'.cell? ⟨b, o, none⟩ = some v :=
  (hb.cell (p := ⟨b, o, none⟩) (World.block_lt_of_cell? _ _ h)).trans h

/-- It lies in every later world. -/
theorem Lies.later {w w' : World} {R : Nat → Prop} {t : T} {cs : Array Value} (h : Lies w R t cs) (hb : Below w.heap.size w w') : Lies w' R t cs := by
  induction h with
  | mk k b n s l m la lc ma mc cl cm hk' hn hs hl hm rl rm ks il im ihl ihm =>
    exact .mk k b n s l m la lc ma mc cl cm hk' hn hs hl hm (fun i hi bl ol e j hj => cells_frame hb (rl i hi bl ol e j hj)) (fun i hi bl ol e j hj => cells_frame hb (rm i hi bl ol e j hj)) ks ihl ihm

theorem SliceV.later {w w' : World} {R : Nat → Prop} {ts : List T} {a : Option Addr} {cap : Nat} {cl : Nat → Array Value} (h : SliceV w R ts a cap cl) (hb : Below w.heap.size w w') : SliceV w' R ts a cap cl :=
  ⟨h.hdr, fun i hi bl ol e j hj => cells_frame hb (h.rows i hi bl ol e j hj), fun i hi => (h.each i hi).later hb⟩
theorem SliceP.later {w w' : World} {R : Nat → Prop} {ps : List (ByteArray × T)} {a : Option Addr} {cap : Nat} {cl : Nat → Array Value} (h : SliceP w R ps a cap cl) (hb : Below w.heap.size w w') : SliceP w' R ps a cap cl :=
  ⟨h.hdr, fun i hi bl ol e j hj => cells_frame hb (h.rows i hi bl ol e j hj), h.keys, fun i hi => (h.each i hi).later hb⟩

theorem SliceV.keepB {w w' : World} {R : Nat → Prop} {ts : List T} {a : Option Addr} {cap : Nat} {cl : Nat → Array Value} (h : SliceV w R ts a cap cl) (hk : ∀ b, R b → b < w.heap.size → w'.heap[b]? = w.heap[b]?) : SliceV w' R ts a cap cl :=
  ⟨h.hdr, fun i hi bl ol e j hj => by
    obtain ⟨b', o', e', hR⟩ := h.hdr.some (by omega)
    rw [e] at e'
    cases e'
    have r := h.rows i hi bl ol e j hj
    exact (World.cell?_of_block (w := w) (a := ⟨bl, _, none⟩) (hk bl hR (World.block_lt_of_cell? _ _ r))).trans r, fun i hi => ((h.each i hi).keepB hk).weaken fun b hb => hb.1⟩
theorem SliceP.keepB {w w' : World} {R : Nat → Prop} {ps : List (ByteArray × T)} {a : Option Addr} {cap : Nat} {cl : Nat → Array Value} (h : SliceP w R ps a cap cl) (hk : ∀ b, R b → b < w.heap.size → w'.heap[b]? = w.heap[b]?) : SliceP w' R ps a cap cl :=
  ⟨h.hdr, fun i hi bl ol e j hj => by
    obtain ⟨b', o', e', hR⟩ := h.hdr.some (by omega)
    rw [e] at e'
    cases e'
    have r := h.rows i hi bl ol e j hj
    exact (World.cell?_of_block (w := w) (a := ⟨bl, _, none⟩) (hk bl hR (World.block_lt_of_cell? _ _ r))).trans r, h.keys, fun i hi => ((h.each i hi).keepB hk).weaken fun b hb => hb.1⟩
theorem Lies.of_slices {w : World} {R : Nat → Prop} {k : Int} {b : Bool} {n : Int} {s : ByteArray} {l : List T} {m : List (ByteArray × T)} {la ma : Option Addr} {lc mc : Nat} {cl cm : Nat → Array Value}
    (hk : (Lit.int .i64 k).wf = true) (hn : (Lit.int .i64 n).wf = true) (hs : s.size ≤ 140737488355328) (h1 : SliceV w R l la lc cl) (h2 : SliceP w R m ma mc cm) :
    Lies w R (.mk k b n s l m) #[.int .i64 k, .bool b, .int .i64 n, .string s, .slice la l.length lc, .slice ma m.length mc] :=
  .mk k b n s l m la lc ma mc cl cm hk hn hs h1.hdr h2.hdr h1.rows h2.rows h2.keys h1.each h2.each
theorem SliceV.weaken {w : World} {R R' : Nat → Prop} (hR : ∀ b, R b → R' b) {ts : List T} {a : Option Addr} {cap : Nat} {cl : Nat → Array Value} (h : SliceV w R ts a cap cl) : SliceV w R' ts a cap cl := ⟨Hdr.weaken hR h.hdr, h.rows, fun i hi => (h.each i hi).weaken hR⟩
theorem SliceP.weaken {w : World} {R R' : Nat → Prop} (hR : ∀ b, R b → R' b) {ps : List (ByteArray × T)} {a : Option Addr} {cap : Nat} {cl : Nat → Array Value} (h : SliceP w R ps a cap cl) : SliceP w R' ps a cap cl := ⟨Hdr.weaken hR h.hdr, h.rows, h.keys, fun i hi => (h.each i hi).weaken hR⟩

theorem grown_of_below {w w' : World} (h : Below w.heap.size w w') (row : Option Nat) : w.grownBy w' row := ⟨h.os, h.tape, h.output, h.size, fun k hk _ => h.block k hk⟩

theorem Lies.size6 {w : World} {R : Nat → Prop} {t : T} {cs : Array Value} (h : Lies w R t cs) : cs.size = 6 := by cases h; rfl
theorem Lies.one {w : World} {R : Nat → Prop} {t : T} {cs : Array Value} (h : Lies w R t cs) : ∀ u ∈ cs.toList, u.oneCell' = true := by
  obtain ⟨k, b, n, s, la, ll, lc, ma, ml, mc, rfl⟩ := h.six
  intro u hu
  simp at hu
  rcases hu with rfl | rfl | rfl | rfl | rfl | rfl <;> rfl

/-- Rows of one width laid one behind the other. -/
theorem flat_get {s : Nat} : ∀ (D : List (Array Value)), (∀ d ∈ D, d.size = s) → ∀ (i : Nat) (hi : i < D.length) (k : Nat) (hk : k < D[i].size), (D.flatMap Array.toList)[i * s + k]? = some D[i][k]
  | d :: r, h, 0, _, k, hk => by
    simp only [List.getElem_cons_zero] at hk ⊢
    rw [List.flatMap_cons, Nat.zero_mul, Nat.zero_add, List.getElem?_append_left (by simpa using hk)]
    simp [hk]
  | d :: r, h, i + 1, hi, k, hk => by
    have hd := h d (by simp)
    simp only [List.getElem_cons_succ] at hk ⊢
    rw [List.flatMap_cons, List.getElem?_append_right (by simp [hd, Nat.add_mul]; omega)]
    rw [show (i + 1) * s + k - d.toList.length = i * s + k by simp [hd, Nat.add_mul]; omega]
    exact flat_get r (fun x hx => h x (by simp [hx])) i (by simpa using hi) k hk
theorem flat_len {s : Nat} : ∀ (D : List (Array Value)), (∀ d ∈ D, d.size = s) → (D.flatMap Array.toList).length = D.length * s
  | [], _ => by simp
  | d :: r, h => by
    have hd := h d (by simp)
    rw [List.flatMap_cons, List.length_append, flat_len r (fun x hx => h x (by simp [hx]))]
    simp [hd, Nat.add_mul]; omega

def Cloned (w : World) (t : T) (e : Ending) (w' : World) : Prop := ∃ ds, e = .returned (.agg ds) ∧ Lies w' (fun b => w.heap.size ≤ b) t ds ∧ Below w.heap.size w w'
def ClonedL (w : World) (ts : List T) (e : Ending) (w' : World) : Prop := ∃ a cap dl, e = .returned (.slice a ts.length cap) ∧ SliceV w' (fun b => w.heap.size ≤ b) ts a cap dl ∧ Below w.heap.size w w'
def ClonedM (w : World) (ps : List (ByteArray × T)) (e : Ending) (w' : World) : Prop := ∃ a cap dl, e = .returned (.slice a ps.length cap) ∧ SliceP w' (fun b => w.heap.size ≤ b) ps a cap dl ∧ Below w.heap.size w w'

theorem Tryd.infoV : (Tryd.prog.info? 25).map (fun i => (i.zero, i.size, i.bytes)) = some (some (.agg #[.int .i64 0, .bool false, .int .i64 0, .string ⟨#[]⟩, .slice none 0 0, .slice none 0 0]), 6, 88) := by kernel_rfl
theorem Tryd.infoP : (Tryd.prog.info? 55).map (fun i => (i.zero, i.size, i.bytes)) = some (some (.agg #[.string ⟨#[]⟩, .int .i64 0, .bool false, .int .i64 0, .string ⟨#[]⟩, .slice none 0 0, .slice none 0 0]), 7, 104) := by kernel_rfl

/-- The cells of a new block. -/
theorem lit_cells (w : World) (cs : Array Value) (t : TypeId) (j : Nat) (u : Value) (h : cs.toList[j]? = some u) : (w.alloc (.cells cs t)).cell? ((⟨w.heap.size, 0, none⟩ : Addr).add j) = some u := by
  rw [Addr.add_lit, Nat.zero_add, World.cell?_alloc_new, ← Array.getElem?_toList]
  exact h

/-- What has been built of a list: j clones, in the row g. -/
structure BuiltV (W w : World) (g : Nat) (ts : List T) (j cap : Nat) (D : List (Array Value)) : Prop where
  len : D.length = j
  le : j ≤ ts.length
  own : w.ownsRow W.heap.size 25 6 (.slice (some ⟨g, 0, none⟩) j cap) j (D.flatMap Array.toList)
  each : ∀ i (h : i < ts.length) (h' : i < D.length), Lies w (fun b => W.heap.size ≤ b ∧ b ≠ g) ts[i] D[i]

theorem BuiltV.step {W wr w2 w3 : World} {g j cap : Nat} {ts : List T} {D : List (Array Value)} {box blk : Obj} {ds : Array Value} (h : BuiltV W wr g ts j cap D) (hg : g < wr.heap.size) (hW : W.heap.size ≤ wr.heap.size) (hj : j < ts.length)
    (hb : Below (wr.alloc box).heap.size (wr.alloc box) w2) (hL : Lies w2 (fun b => (wr.alloc box).heap.size ≤ b) ts[j] ds)
    (own : w3.ownsRow W.heap.size 25 6 (.slice (some ⟨g, 0, none⟩) (j + 1) cap) (j + 1) (D.flatMap Array.toList ++ ds.toList)) (hg3 : (w2.alloc blk).grownBy w3 (some g)) :
    BuiltV W w3 g ts (j + 1) cap (D ++ [ds]) := by
  have hs1 : wr.heap.size + 1 ≤ w2.heap.size := by have := hb.size; simpa using this
  have k1 : ∀ b, b < wr.heap.size → w2.heap[b]? = wr.heap[b]? := fun b hb' => (hb.block b (by simp; omega)).trans (Below.heap_alloc _ _ _ hb')
  have k2 : ∀ b, b < w2.heap.size → b ≠ g → w3.heap[b]? = w2.heap[b]? := fun b hb' hne => (hg3.block b (by simp; omega) (by simpa using hne)).trans (Below.heap_alloc _ _ _ hb')
  have hDl := h.len
  refine ⟨by simp [h.len], by omega, by simpa using own, fun i hi hi' => ?_⟩
  by_cases hij : i < j
  · have e : (D ++ [ds])[i] = D[i]'(by omega) := List.getElem_append_left (by omega)
    rw [e]
    have := (h.each i hi (by omega)).keepB (w' := w3) (fun b hR hlt => (k2 b (by omega) hR.2).trans (k1 b hlt))
    exact this.weaken fun b hb' => hb'.1
  · have e2 : i = j := by simp at hi'; omega
    subst e2
    have e : (D ++ [ds])[i]'hi' = ds := by rw [List.getElem_append_right (by omega)]; simp [h.len]
    rw [e]
    have := hL.keepB (w' := w3) (fun b hR hlt => k2 b hlt (by simp at hR; omega))
    exact this.weaken fun b hb' => by simp at hb'; omega

theorem get_congr {A B : Array Value} (e : A = B) (k : Nat) (h1 : k < A.size) (h2 : k < B.size) : A[k] = B[k] := by subst e; rfl

theorem BuiltV.done {W w : World} {g cap : Nat} {ts : List T} {D : List (Array Value)} (h : BuiltV W w g ts ts.length cap D) (hg : W.heap.size ≤ g) (hc : ts.length ≤ cap) (hx : ts.length * 88 ≤ 140737488355328) (hm : cap ≤ 9223372036854775807) :
    SliceV w (fun b => W.heap.size ≤ b) ts (some ⟨g, 0, none⟩) cap (fun i => D.getD i #[]) := by
  have hD : ∀ d ∈ D, d.size = 6 := fun d hd => by
    obtain ⟨i, hi, rfl⟩ := List.getElem_of_mem hd
    exact (h.each i (by have := h.len; omega) hi).size6
  refine ⟨⟨hc, hx, by simp, fun _ => ⟨g, 0, rfl, hg⟩, hm⟩, fun i hi bl ol e k hk => ?_, fun i hi => ?_⟩
  · simp only [Option.some.injEq, Addr.mk.injEq, and_true] at e
    obtain ⟨rfl, rfl⟩ := e
    have hi' : i < D.length := by rw [h.len]; exact hi
    have eD : D.getD i #[] = D[i] := by simp [List.getD, hi']
    have hk' : k < 6 := by have := hD D[i] (List.getElem_mem hi'); simp only [eD] at hk; omega
    have hlt : i * 6 + k < ts.length * 6 := by omega
    rw [Nat.zero_add, h.own.cellAt (i * 6 + k) hlt, flat_get D hD i hi' k (by rw [hD D[i] (List.getElem_mem hi')]; exact hk')]
    exact congrArg some (get_congr eD.symm k _ _)
  · have hi' : i < D.length := by rw [h.len]; exact hi
    have eD : D.getD i #[] = D[i] := by simp [List.getD, hi']
    rw [eD]
    exact (h.each i hi hi').weaken fun b hb => hb.1

/-- Two blocks of one's own, later. -/
theorem two_boxes {w w1 : World} {cs zs : Array Value} {t1 t2 : TypeId} {B : Nat} (h : Below B ((w.alloc (.cells cs t1)).alloc (.cells zs t2)) w1) (hB : w.heap.size + 1 < B) :
    (∀ j, w1.cell? ⟨w.heap.size, j, none⟩ = cs[j]?) ∧ (∀ j, w1.cell? ⟨w.heap.size + 1, j, none⟩ = zs[j]?) ∧ (∀ j, w1.frozen? ⟨w.heap.size + 1, j, none⟩ = false) ∧ (∀ j, w1.frozen? ⟨w.heap.size, j, none⟩ = false) := by
  have e : w.heap.size + 1 = (w.alloc (.cells cs t1)).heap.size := by simp
  refine ⟨fun j => ?_, fun j => ?_, fun j => ?_, fun j => ?_⟩
  · rw [h.cell (p := ⟨w.heap.size, j, none⟩) (by simp only; omega), World.cell?_alloc_lt _ _ _ (by simp), World.cell?_alloc_new]
  · rw [h.cell (p := ⟨w.heap.size + 1, j, none⟩) (by simp only; omega), e, World.cell?_alloc_new]
  · rw [h.frozen (p := ⟨w.heap.size + 1, j, none⟩) (by simp only; omega), e, World.frozen?_alloc_new]
  · rw [h.frozen (p := ⟨w.heap.size, j, none⟩) (by simp only; omega), World.frozen?_alloc_old _ _ _ (by simp), World.frozen?_alloc_new]
theorem undrew {B : Nat} {a b : World} (h : Below B a.drew b) : Below B a b := ⟨h.os, h.tape, h.output, h.size, h.block⟩

def ClonedP (w : World) (p : ByteArray × T) (e : Ending) (w' : World) : Prop := ∃ ds, e = .returned (.agg (#[Value.string p.1] ++ ds)) ∧ Lies w' (fun b => w.heap.size ≤ b) p.2 ds ∧ Below w.heap.size w w'

end Go.Proofs.YtfadijofnaepnaaDoor
