/-
  Clones: the same value, in memory of its own.
-/
import Derived.Test.YtbmlmcoepmbelaaDoorVals
set_option linter.unusedVariables false
set_option linter.unusedSimpArgs false
namespace Go.Proofs.YtbmlmcoepmbelaaDoor
open Go.RowKit

theorem Lies.keep {w w' : World} {R : Nat → Prop} {t : T} {cs : Array Value} (h : Lies w R t cs) (hk : ∀ b, R b → w'.heap[b]? = w.heap[b]?) : Lies w' R t cs := by
  induction h with
  | mk k b n s l m la lc ma mc cl cm hk' hn hs hl hm rl rm ks il im ihl ihm =>
    refine .mk k b n s l m la lc ma mc cl cm hk' hn hs hl hm (fun i hi bl ol e => ?_) (fun i hi bl ol e => ?_) ks ihl ihm
    · obtain ⟨b', o', e', hR⟩ := hl.some (by omega)
      have r := rl i hi bl ol e
      rw [e] at e'
      cases e'
      exact fun j hj => (World.cell?_of_block (w := w) (a := ⟨bl, _, none⟩) (hk bl hR)).trans (r j hj)
    · obtain ⟨b', o', e', hR⟩ := hm.some (by omega)
      have r := rm i hi bl ol e
      rw [e] at e'
      cases e'
      exact fun j hj => (World.cell?_of_block (w := w) (a := ⟨bl, _, none⟩) (hk bl hR)).trans (r j hj)

theorem Lies.bound {w : World} {R : Nat → Prop} {t : T} {cs : Array Value} (h : Lies w R t cs) : Lies w (fun b => R b ∧ b < w.heap.size) t cs := by
  induction h with
  | mk k b n s l m la lc ma mc cl cm hk' hn hs hl hm rl rm ks il im ihl ihm =>
    refine .mk k b n s l m la lc ma mc cl cm hk' hn hs ⟨hl.le, hl.big, hl.none, fun hp => ?_, hl.max⟩ ⟨hm.le, hm.big, hm.none, fun hp => ?_, hm.max⟩ rl rm ks ihl ihm
    · obtain ⟨bl, ol, e, hR⟩ := hl.some hp
      have r := rl 0 hp bl ol e
      obtain ⟨c0, c1, c2, c3, c4, c5, c6, c7, c8, c9, hc⟩ := (il 0 hp).six
      exact ⟨bl, ol, e, hR, r.lt (by rw [hc]; simp)⟩
    · obtain ⟨bl, ol, e, hR⟩ := hm.some hp
      have r := rm 0 hp bl ol e
      exact ⟨bl, ol, e, hR, r.lt (by simp; omega)⟩

theorem Lies.keepB {w w' : World} {R : Nat → Prop} {t : T} {cs : Array Value} (h : Lies w R t cs) (hk : ∀ b, R b → b < w.heap.size → w'.heap[b]? = w.heap[b]?) : Lies w' (fun b => R b ∧ b < w.heap.size) t cs :=
  h.bound.keep fun b hb => hk b hb.1 hb.2

theorem Hdr.weaken {R R' : Nat → Prop} (hR : ∀ b, R b → R' b) {bytes : Nat} {a : Option Addr} {len cap : Nat} (h : Hdr R bytes a len cap) : Hdr R' bytes a len cap :=
  ⟨h.le, h.big, h.none, fun hp => let ⟨b, o, e, hb⟩ := h.some hp; ⟨b, o, e, hR b hb⟩, h.max⟩

theorem Lies.weaken {w : World} {R R' : Nat → Prop} (hR : ∀ b, R b → R' b) {t : T} {cs : Array Value} (h : Lies w R t cs) : Lies w R' t cs := by
  induction h with
  | mk k b n s l m la lc ma mc cl cm hk' hn hs hl hm rl rm ks il im ihl ihm =>
    exact .mk k b n s l m la lc ma mc cl cm hk' hn hs (Hdr.weaken hR hl) (Hdr.weaken hR hm) rl rm ks ihl ihm

theorem cells_frame {w w' : World} (hb : Below w.heap.size w w') {b o : Nat} {v : Value} (h : w.cell? ⟨b, o, none⟩ = some v) : w'.cell? ⟨b, o, none⟩ = some v :=
  (hb.cell (p := ⟨b, o, none⟩) (World.block_lt_of_cell? _ _ h)).trans h

/-- It lies in every later world. -/
theorem Lies.later {w w' : World} {R : Nat → Prop} {t : T} {cs : Array Value} (h : Lies w R t cs) (hb : Below w.heap.size w w') : Lies w' R t cs := by
  induction h with
  | mk k b n s l m la lc ma mc cl cm hk' hn hs hl hm rl rm ks il im ihl ihm =>
    exact .mk k b n s l m la lc ma mc cl cm hk' hn hs hl hm (fun i hi bl ol e j hj => cells_frame hb (rl i hi bl ol e j hj)) (fun i hi bl ol e j hj => cells_frame hb (rm i hi bl ol e j hj)) ks ihl ihm

theorem SliceV.later {w w' : World} {R : Nat → Prop} {ts : List T} {a : Option Addr} {cap : Nat} {cl : Nat → Array Value} (h : SliceV w R ts a cap cl) (hb : Below w.heap.size w w') : SliceV w' R ts a cap cl :=
  ⟨h.hdr, fun i hi bl ol e j hj => cells_frame hb (h.rows i hi bl ol e j hj), fun i hi => (h.each i hi).later hb⟩
theorem SliceP.later {w w' : World} {R : Nat → Prop} {ps : List (ByteArray × T)} {a : Option Addr} {cap : Nat} {cl : Nat → Array Value} (h : SliceP w R ps a cap cl) (hb : Below w.heap.size w w') : SliceP w' R ps a cap cl :=
  ⟨h.hdr, fun i hi bl ol e j hj => cells_frame hb (h.rows i hi bl ol e j hj), h.keys, fun i hi => (h.each i hi).later hb⟩

theorem SliceV.keepB {w w' : World} {R : Nat → Prop} {ts : List T} {a : Option Addr} {cap : Nat} {cl : Nat → Array Value} (h : SliceV w R ts a cap cl) (hk : ∀ b, R b → b < w.heap.size → w'.heap[b]? = w.heap[b]?) : SliceV w' R ts a cap cl :=
  ⟨h.hdr, fun i hi bl ol e j hj => by
    obtain ⟨b', o', e', hR⟩ := h.hdr.some (by omega)
    rw [e] at e'
    cases e'
    have r := h.rows i hi bl ol e j hj
    exact (World.cell?_of_block (w := w) (a := ⟨bl, _, none⟩) (hk bl hR (World.block_lt_of_cell? _ _ r))).trans r, fun i hi => ((h.each i hi).keepB hk).weaken fun b hb => hb.1⟩
theorem SliceP.keepB {w w' : World} {R : Nat → Prop} {ps : List (ByteArray × T)} {a : Option Addr} {cap : Nat} {cl : Nat → Array Value} (h : SliceP w R ps a cap cl) (hk : ∀ b, R b → b < w.heap.size → w'.heap[b]? = w.heap[b]?) : SliceP w' R ps a cap cl :=
  ⟨h.hdr, fun i hi bl ol e j hj => by
    obtain ⟨b', o', e', hR⟩ := h.hdr.some (by omega)
    rw [e] at e'
    cases e'
    have r := h.rows i hi bl ol e j hj
    exact (World.cell?_of_block (w := w) (a := ⟨bl, _, none⟩) (hk bl hR (World.block_lt_of_cell? _ _ r))).trans r, h.keys, fun i hi => ((h.each i hi).keepB hk).weaken fun b hb => hb.1⟩
theorem Lies.of_slices {w : World} {R : Nat → Prop} {k : Int} {b : Bool} {n : Int} {s : ByteArray} {l : List T} {m : List (ByteArray × T)} {la ma : Option Addr} {lc mc : Nat} {cl cm : Nat → Array Value}
    (hk : (Lit.int .i64 k).wf = true) (hn : (Lit.int .i64 n).wf = true) (hs : s.size ≤ 140737488355328) (h1 : SliceV w R l la lc cl) (h2 : SliceP w R m ma mc cm) :
    Lies w R (.mk k b n s l m) #[.int .i64 k, .bool b, .int .i64 n, .string s, .slice la l.length lc, .slice ma m.length mc] :=
  .mk k b n s l m la lc ma mc cl cm hk hn hs h1.hdr h2.hdr h1.rows h2.rows h2.keys h1.each h2.each
theorem SliceV.weaken {w : World} {R R' : Nat → Prop} (hR : ∀ b, R b → R' b) {ts : List T} {a : Option Addr} {cap : Nat} {cl : Nat → Array Value} (h : SliceV w R ts a cap cl) : SliceV w R' ts a cap cl := ⟨Hdr.weaken hR h.hdr, h.rows, fun i hi => (h.each i hi).weaken hR⟩
theorem SliceP.weaken {w : World} {R R' : Nat → Prop} (hR : ∀ b, R b → R' b) {ps : List (ByteArray × T)} {a : Option Addr} {cap : Nat} {cl : Nat → Array Value} (h : SliceP w R ps a cap cl) : SliceP w R' ps a cap cl := ⟨Hdr.weaken hR h.hdr, h.rows, h.keys, fun i hi => (h.each i hi).weaken hR⟩

theorem grown_of_below {w w' : World} (h : Below w.heap.size w w') (row : Option Nat) : w.grownBy w' row := ⟨h.os, h.tape, h.output, h.size, fun k hk _ => h.block k hk⟩

theorem Lies.size6 {w : World} {R : Nat → Prop} {t : T} {cs : Array Value} (h : Lies w R t cs) : cs.size = 6 := by cases h; rfl
theorem Lies.one {w : World} {R : Nat → Prop} {t : T} {cs : Array Value} (h : Lies w R t cs) : ∀ u ∈ cs.toList, u.oneCell' = true := by
  obtain ⟨k, b, n, s, la, ll, lc, ma, ml, mc, rfl⟩ := h.six
  intro u hu
  simp at hu
  rcases hu with rfl | rfl | rfl | rfl | rfl | rfl <;> rfl

/-- Rows of one width laid one behind the other. -/
theorem flat_get {s : Nat} : ∀ (D : List (Array Value)), (∀ d ∈ D, d.size = s) → ∀ (i : Nat) (hi : i < D.length) (k : Nat) (hk : k < D[i].size), (D.flatMap Array.toList)[i * s + k]? = some D[i][k]
  | d :: r, h, 0, _, k, hk => by
    simp only [List.getElem_cons_zero] at hk ⊢
    rw [List.flatMap_cons, Nat.zero_mul, Nat.zero_add, List.getElem?_append_left (by simpa using hk)]
    simp [hk]
  | d :: r, h, i + 1, hi, k, hk => by
    have hd := h d (by simp)
    simp only [List.getElem_cons_succ] at hk ⊢
    rw [List.flatMap_cons, List.getElem?_append_right (by simp [hd, Nat.add_mul]; omega)]
    rw [show (i + 1) * s + k - d.toList.length = i * s + k by simp [hd, Nat.add_mul]; omega]
    exact flat_get r (fun x hx => h x (by simp [hx])) i (by simpa using hi) k hk
theorem flat_len {s : Nat} : ∀ (D : List (Array Value)), (∀ d ∈ D, d.size = s) → (D.flatMap Array.toList).length = D.length * s
  | [], _ => by simp
  | d :: r, h => by
    have hd := h d (by simp)
    rw [List.flatMap_cons, List.length_append, flat_len r (fun x hx => h x (by simp [hx]))]
    simp [hd, Nat.add_mul]; omega

def Cloned (w : World) (t : T) (e : Ending) (w' : World) : Prop := ∃ ds, e = .returned (.agg ds) ∧ Lies w' (fun b => w.heap.size ≤ b) t ds ∧ Below w.heap.size w w'
def ClonedL (w : World) (ts : List T) (e : Ending) (w' : World) : Prop := ∃ a cap dl, e = .returned (.slice a ts.length cap) ∧ SliceV w' (fun b => w.heap.size ≤ b) ts a cap dl ∧ Below w.heap.size w w'
def ClonedM (w : World) (ps : List (ByteArray × T)) (e : Ending) (w' : World) : Prop := ∃ a cap dl, e = .returned (.slice a ps.length cap) ∧ SliceP w' (fun b => w.heap.size ≤ b) ps a cap dl ∧ Below w.heap.size w w'

theorem Tryd.infoV : (Tryd.prog.info? 25).map (fun i => (i.zero, i.size, i.bytes)) = some (some (.agg #[.int .i64 0, .bool false, .int .i64 0, .string ⟨#[]⟩, .slice none 0 0, .slice none 0 0]), 6, 88) := by kernel_rfl
theorem Tryd.infoP : (Tryd.prog.info? 54).map (fun i => (i.zero, i.size, i.bytes)) = some (some (.agg #[.string ⟨#[]⟩, .int .i64 0, .bool false, .int .i64 0, .string ⟨#[]⟩, .slice none 0 0, .slice none 0 0]), 7, 104) := by kernel_rfl

/-- The cells of a new block. -/
theorem lit_cells (w : World) (cs : Array Value) (t : TypeId) (j : Nat) (u : Value) (h : cs.toList[j]? = some u) : (w.alloc (.cells cs t)).cell? ((⟨w.heap.size, 0, none⟩ : Addr).add j) = some u := by
  rw [Addr.add_lit, Nat.zero_add, World.cell?_alloc_new, ← Array.getElem?_toList]
  exact h

/-- What has been built of a list: j clones, in the row g. -/
structure BuiltV (W w : World) (g : Nat) (ts : List T) (j cap : Nat) (D : List (Array Value)) : Prop where
  len : D.length = j
  le : j ≤ ts.length
  own : w.ownsRow W.heap.size 25 6 (.slice (some ⟨g, 0, none⟩) j cap) j (D.flatMap Array.toList)
  each : ∀ i (h : i < ts.length) (h' : i < D.length), Lies w (fun b => W.heap.size ≤ b ∧ b ≠ g) ts[i] D[i]

theorem BuiltV.step {W wr w2 w3 : World} {g j cap : Nat} {ts : List T} {D : List (Array Value)} {box blk : Obj} {ds : Array Value} (h : BuiltV W wr g ts j cap D) (hg : g < wr.heap.size) (hW : W.heap.size ≤ wr.heap.size) (hj : j < ts.length)
    (hb : Below (wr.alloc box).heap.size (wr.alloc box) w2) (hL : Lies w2 (fun b => (wr.alloc box).heap.size ≤ b) ts[j] ds)
    (own : w3.ownsRow W.heap.size 25 6 (.slice (some ⟨g, 0, none⟩) (j + 1) cap) (j + 1) (D.flatMap Array.toList ++ ds.toList)) (hg3 : (w2.alloc blk).grownBy w3 (some g)) :
    BuiltV W w3 g ts (j + 1) cap (D ++ [ds]) := by
  have hs1 : wr.heap.size + 1 ≤ w2.heap.size := by have := hb.size; simpa using this
  have k1 : ∀ b, b < wr.heap.size → w2.heap[b]? = wr.heap[b]? := fun b hb' => (hb.block b (by simp; omega)).trans (Below.heap_alloc _ _ _ hb')
  have k2 : ∀ b, b < w2.heap.size → b ≠ g → w3.heap[b]? = w2.heap[b]? := fun b hb' hne => (hg3.block b (by simp; omega) (by simpa using hne)).trans (Below.heap_alloc _ _ _ hb')
  have hDl := h.len
  refine ⟨by simp [h.len], by omega, by simpa using own, fun i hi hi' => ?_⟩
  by_cases hij : i < j
  · have e : (D ++ [ds])[i] = D[i]'(by omega) := List.getElem_append_left (by omega)
    rw [e]
    have := (h.each i hi (by omega)).keepB (w' := w3) (fun b hR hlt => (k2 b (by omega) hR.2).trans (k1 b hlt))
    exact this.weaken fun b hb' => hb'.1
  · have e2 : i = j := by simp at hi'; omega
    subst e2
    have e : (D ++ [ds])[i]'hi' = ds := by rw [List.getElem_append_right (by omega)]; simp [h.len]
    rw [e]
    have := hL.keepB (w' := w3) (fun b hR hlt => k2 b hlt (by simp at hR; omega))
    exact this.weaken fun b hb' => by simp at hb'; omega

theorem get_congr {A B : Array Value} (e : A = B) (k : Nat) (h1 : k < A.size) (h2 : k < B.size) : A[k] = B[k] := by subst e; rfl

theorem BuiltV.done {W w : World} {g cap : Nat} {ts : List T} {D : List (Array Value)} (h : BuiltV W w g ts ts.length cap D) (hg : W.heap.size ≤ g) (hc : ts.length ≤ cap) (hx : ts.length * 88 ≤ 140737488355328) (hm : cap ≤ 9223372036854775807) :
    SliceV w (fun b => W.heap.size ≤ b) ts (some ⟨g, 0, none⟩) cap (fun i => D.getD i #[]) := by
  have hD : ∀ d ∈ D, d.size = 6 := fun d hd => by
    obtain ⟨i, hi, rfl⟩ := List.getElem_of_mem hd
    exact (h.each i (by have := h.len; omega) hi).size6
  refine ⟨⟨hc, hx, by simp, fun _ => ⟨g, 0, rfl, hg⟩, hm⟩, fun i hi bl ol e k hk => ?_, fun i hi => ?_⟩
  · simp only [Option.some.injEq, Addr.mk.injEq, and_true] at e
    obtain ⟨rfl, rfl⟩ := e
    have hi' : i < D.length := by rw [h.len]; exact hi
    have eD : D.getD i #[] = D[i] := by simp [List.getD, hi']
    have hk' : k < 6 := by have := hD D[i] (List.getElem_mem hi'); simp only [eD] at hk; omega
    have hlt : i * 6 + k < ts.length * 6 := by omega
    rw [Nat.zero_add, h.own.cellAt (i * 6 + k) hlt, flat_get D hD i hi' k (by rw [hD D[i] (List.getElem_mem hi')]; exact hk')]
    exact congrArg some (get_congr eD.symm k _ _)
  · have hi' : i < D.length := by rw [h.len]; exact hi
    have eD : D.getD i #[] = D[i] := by simp [List.getD, hi']
    rw [eD]
    exact (h.each i hi hi').weaken fun b hb => hb.1

set_option maxHeartbeats 400000 in
theorem cloneValues_any {w0 : World} {R : Nat → Prop} {ts : List T} {a : Option Addr} {cap : Nat} {cl : Nat → Array Value} (h : SliceV w0 R ts a cap cl)
    (hc : ∀ i (p : i < ts.length) (w : World), Below w0.heap.size w0 w → Calls Tryd.prog 26 #[.agg (cl i)] w (Cloned w ts[i])) (w : World) (hw : Below w0.heap.size w0 w) :
    Calls Tryd.prog 49 #[.slice a ts.length cap] w (ClonedL w ts) := by
  have hl := h.hdr
  have ll := hl.le
  have lx := hl.big
  have HC := Lib.hid hc
  clear hc
  obtain ⟨i0, hi, hz0, hz1, hz2⟩ := info_parts Tryd.infoV
  by_cases hn : ts.length = 0
  · go_enter Tryd.func49, Tryd.ntmps49
    go_wp2_with fail
    go_ret
    exact ⟨none, 0, cl, by rw [hn]; rfl, ⟨⟨by omega, by omega, fun _ => rfl, fun hp => absurd hp (by omega), by omega⟩, fun i hi => absurd hi (by omega), fun i hi => absurd hi (by omega)⟩, Below.refl _ _⟩
  have hn0 : ((ts.length : Int) == 0) = false := by simp; exact fun e => hn (by simp [e])
  go_enter Tryd.func49, Tryd.ntmps49
  go_wp2_with (at_make; refine wpList_make_own _ rfl _ _ 22 rfl w.heap.size 25 i0 _ 6 Tryd.underlying22 hi hz0 hz1 .i64 .i64 _ ts.length rfl rfl rfl (by rw [hz2]; omega) (by unfold maxLen; omega) (Nat.le_refl _) ?_; intro w1 hown hgrow)
  go_loopw [3, 14] (fun vn vi wr => ∃ (j : Nat) (D : List (Array Value)), vi = .int .i64 j ∧ vn = .slice (some ⟨w.heap.size, 0, none⟩) j ts.length ∧ BuiltV w wr w.heap.size ts j ts.length D ∧ Below w.heap.size w wr ∧ w.heap.size < wr.heap.size) (fun _ vi _ => ts.length - (intOf vi).toNat)
  case atStart => exact ⟨0, [], rfl, rfl, ⟨rfl, by omega, hown, fun i _ h' => absurd h' (by simp)⟩, (Below.refl _ _).grown hgrow (Nat.le_refl _) (by simp), by
    have := hown.lt w.heap.size (by simp [Value.ownBlock]); omega⟩
  case round =>
    obtain ⟨j, D, rfl, rfl, hB, hbw, hlt⟩ := hrel
    have hj := hB.le
    have hbw2 := bstep hw hbw hw.size
    by_cases hjl : j < ts.length
    · have CJ := Lib.hid (HC.out j hjl)
      obtain ⟨bl, ol, c0, c1, c2, c3, c4, c4l, c4c, c5, c5l, c5c, rfl, hcl, r0, r1, r2, r3, r4, r5⟩ := openL hbw2 hl h.rows hjl (h.each j hjl)
      rw [hcl] at CJ
      clear hcl
      go_wp2_with fail
      refine (CJ.out _ (bbox hbw2 _ hbw2.size)).mono ?_
      rintro e w2 ⟨ds, rfl, hL, hb1⟩
      have hL6 := hL.six
      obtain ⟨d0, d1, d2, d3, d4, d4l, d4c, d5, d5l, d5c, rfl⟩ := hL6
      have own2 := (hB.own.alloc (.cells #[.int .i64 c0, .bool c1, .int .i64 c2, .string c3, .slice c4 c4l c4c, .slice c5 c5l c5c] 25)).kept (grown_of_below hb1 none) (.inr (by simp [Value.ownBlock]))
      have HD := Lib.hid hB
      have hb2 := bstep hbw (bunbox hb1 (Nat.le_refl _) (by simp)) hbw.size
      clear hB
      go_wp2_with (at_builtin; refine wpList_append_fits _ rfl (.tmp 18) (.tmp 21) 22 rfl w.heap.size 25 i0 6 Tryd.underlying22 hi hz1 w.heap.size j ts.length _ rfl (own2.alloc _) ⟨w2.heap.size, 0, none⟩ 1 1 [.int .i64 d0, .bool d1, .int .i64 d2, .string d3, .slice d4 d4l d4c, .slice d5 d5l d5c] rfl rfl ?c1 ?c2 ?c3 ?_)
      case c1 => exact fun j u hu => lit_cells w2 _ _ j u hu
      case c2 => exact hL.one
      case c3 => omega
      intro w3 own3 hg3
      have HB := HD.out.step hlt hbw.size hjl hb1 hL own3 hg3
      have hb3 := ((Below.alloc hb2 hb2.size _).grown hg3 (by have := hb2.size; simp; omega) (by simp))
      have hlt3 : w.heap.size < w3.heap.size := by have := hg3.size; simp at this; have := hb1.size; simp at this; omega
      have HB3 := Lib.hid HB
      have hb3' := Lib.hid hb3
      clear HB hb3
      go_wp2_with fail
      go_roundw
      case rel => exact ⟨j + 1, _, by go_num, rfl, HB3.out, hb3'.out, hlt3⟩
      case measure => simp [intOf]; omega
    · obtain rfl : j = ts.length := by omega
      have HS := Lib.hid (hB.done (Nat.le_refl _) (Nat.le_refl _) (by omega) (by omega))
      clear hB
      go_wp2_with fail
      go_ret
      exact ⟨_, _, _, rfl, HS.out, hbw⟩

/-- Two blocks of one's own, later. -/
theorem two_boxes {w w1 : World} {cs zs : Array Value} {t1 t2 : TypeId} {B : Nat} (h : Below B ((w.alloc (.cells cs t1)).alloc (.cells zs t2)) w1) (hB : w.heap.size + 1 < B) :
    (∀ j, w1.cell? ⟨w.heap.size, j, none⟩ = cs[j]?) ∧ (∀ j, w1.cell? ⟨w.heap.size + 1, j, none⟩ = zs[j]?) ∧ (∀ j, w1.frozen? ⟨w.heap.size + 1, j, none⟩ = false) ∧ (∀ j, w1.frozen? ⟨w.heap.size, j, none⟩ = false) := by
  have e : w.heap.size + 1 = (w.alloc (.cells cs t1)).heap.size := by simp
  refine ⟨fun j => ?_, fun j => ?_, fun j => ?_, fun j => ?_⟩
  · rw [h.cell (p := ⟨w.heap.size, j, none⟩) (by simp only; omega), World.cell?_alloc_lt _ _ _ (by simp), World.cell?_alloc_new]
  · rw [h.cell (p := ⟨w.heap.size + 1, j, none⟩) (by simp only; omega), e, World.cell?_alloc_new]
  · rw [h.frozen (p := ⟨w.heap.size + 1, j, none⟩) (by simp only; omega), e, World.frozen?_alloc_new]
  · rw [h.frozen (p := ⟨w.heap.size, j, none⟩) (by simp only; omega), World.frozen?_alloc_old _ _ _ (by simp), World.frozen?_alloc_new]
theorem undrew {B : Nat} {a b : World} (h : Below B a.drew b) : Below B a b := ⟨h.os, h.tape, h.output, h.size, h.block⟩

def ClonedP (w : World) (p : ByteArray × T) (e : Ending) (w' : World) : Prop := ∃ ds, e = .returned (.agg (#[Value.string p.1] ++ ds)) ∧ Lies w' (fun b => w.heap.size ≤ b) p.2 ds ∧ Below w.heap.size w w'

set_option maxHeartbeats 1600000 in
theorem clonePair_any {w0 : World} {R : Nat → Prop} {p : ByteArray × T} {cs : Array Value} (h : Lies w0 R p.2 cs)
    (hc : ∀ (w : World), Below w0.heap.size w0 w → Calls Tryd.prog 26 #[.agg cs] w (Cloned w p.2)) (w : World) (hw : Below w0.heap.size w0 w) :
    Calls Tryd.prog 73 #[.agg (#[Value.string p.1] ++ cs)] w (ClonedP w p) := by
  have HC := Lib.hid hc
  clear hc
  obtain ⟨k, b, n, s, la, ll, lc, ma, ml, mc, rfl⟩ := h.six
  simp only [Array.append_eq_append, List.append_toArray, List.cons_append, List.nil_append]
  go_enter Tryd.func73, Tryd.ntmps73
  go_wp2_with fail
  go_region_with (go_at_call 26; refine (HC.out _ (bstep hw ((((Below.refl _ _).alloc (Nat.le_refl _) _).alloc (by simp) _).drew) hw.size)).mono ?_; rintro e w1 ⟨ds, rfl, hL, hb1⟩; obtain ⟨d0, d1, d2, d3, d4, d4l, d4c, d5, d5l, d5c, rfl⟩ := hL.six; obtain ⟨q0, q1, q2, q3⟩ := two_boxes (undrew hb1) (by simp))
  all_goals
    go_wp2_with fail
    obtain ⟨dd, hu, hdd⟩ := Tryd.structP
    refine ret_cells w1 (w.heap.size + 1) [.string p.1, .int .i64 d0, .bool d1, .int .i64 d2, .string d3, .slice d4 d4l d4c, .slice d5 d5l d5c] rfl Tryd.results73 rfl rfl hdd hu Tryd.sizeP (fun i hi => ⟨_, (q1 i).trans (Array.getElem?_eq_getElem (show i < 7 from hi))⟩) ?_
    refine ⟨_, rfl, (hL.keep (fun x hx => ?_)).weaken (fun x hx => ?_), ?_⟩
    · simp only [World.size_drew, World.size_alloc] at hx
      exact setRow_heap _ _ _ _ _ (by omega)
    · simp only [World.size_drew, World.size_alloc] at hx
      omega
    · exact setRow_below _ (by omega) _ _ _ (bstep (((Below.refl w.heap.size w).alloc (Nat.le_refl _) _).alloc (by simp) _) (undrew hb1) (by simp; omega))


end Go.Proofs.YtbmlmcoepmbelaaDoor
