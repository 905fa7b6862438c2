/-
  Clones of pairs, and of a whole value.
-/
import Derived.Test.YtbmlmcoepmbelaaDoorClone
set_option linter.unusedVariables false
set_option linter.unusedSimpArgs false
namespace Go.Proofs.YtbmlmcoepmbelaaDoor
open Go.RowKit

theorem tail_row (v : Value) (ds : Array Value) : ((#[v] ++ ds).toList.tail).toArray = ds := by simp

/-- What has been built of a list of pairs: j clones, in the row g. -/
structure BuiltP (W w : World) (g : Nat) (ts : List (ByteArray × T)) (j cap : Nat) (D : List (Array Value)) : Prop where
  len : D.length = j
  le : j ≤ ts.length
  own : w.ownsRow W.heap.size 54 7 (.slice (some ⟨g, 0, none⟩) j cap) j (D.flatMap Array.toList)
  each : ∀ i (h : i < ts.length) (h' : i < D.length), ∃ ds, D[i] = #[Value.string (ts[i]).1] ++ ds ∧ Lies w (fun b => W.heap.size ≤ b ∧ b ≠ g) (ts[i]).2 ds

theorem BuiltP.step {W wr w2 w3 : World} {g j cap : Nat} {ts : List (ByteArray × T)} {D : List (Array Value)} {box blk : Obj} {ds : Array Value} (h : BuiltP W wr g ts j cap D) (hg : g < wr.heap.size) (hW : W.heap.size ≤ wr.heap.size) (hj : j < ts.length)
    (hb : Below (wr.alloc box).heap.size (wr.alloc box) w2) (hL : Lies w2 (fun b => (wr.alloc box).heap.size ≤ b) (ts[j]).2 ds)
    (own : w3.ownsRow W.heap.size 54 7 (.slice (some ⟨g, 0, none⟩) (j + 1) cap) (j + 1) (D.flatMap Array.toList ++ (#[Value.string (ts[j]).1] ++ ds).toList)) (hg3 : (w2.alloc blk).grownBy w3 (some g)) :
    BuiltP W w3 g ts (j + 1) cap (D ++ [#[Value.string (ts[j]).1] ++ ds]) := by
  have hs1 : wr.heap.size + 1 ≤ w2.heap.size := by have := hb.size; simpa using this
  have k1 : ∀ b, b < wr.heap.size → w2.heap[b]? = wr.heap[b]? := fun b hb' => (hb.block b (by simp; omega)).trans (Below.heap_alloc _ _ _ hb')
  have k2 : ∀ b, b < w2.heap.size → b ≠ g → w3.heap[b]? = w2.heap[b]? := fun b hb' hne => (hg3.block b (by simp; omega) (by simpa using hne)).trans (Below.heap_alloc _ _ _ hb')
  have hDl := h.len
  refine ⟨by simp [h.len], by omega, by simpa using own, fun i hi hi' => ?_⟩
  by_cases hij : i < j
  · have e : (D ++ [#[Value.string (ts[j]).1] ++ ds])[i] = D[i]'(by omega) := List.getElem_append_left (by omega)
    rw [e]
    obtain ⟨ds', e1, e2⟩ := h.each i hi (by omega)
    have := e2.keepB (w' := w3) (fun b hR hlt => (k2 b (by omega) hR.2).trans (k1 b hlt))
    exact ⟨ds', e1, this.weaken fun b hb' => hb'.1⟩
  · have e2 : i = j := by simp at hi'; omega
    subst e2
    have e : (D ++ [#[Value.string (ts[i]).1] ++ ds])[i]'hi' = #[Value.string (ts[i]).1] ++ ds := by rw [List.getElem_append_right (by omega)]; simp [h.len]
    rw [e]
    have := hL.keepB (w' := w3) (fun b hR hlt => k2 b hlt (by simp at hR; omega))
    exact ⟨ds, rfl, this.weaken fun b hb' => by simp at hb'; omega⟩

theorem BuiltP.done {W w : World} {g cap : Nat} {ts : List (ByteArray × T)} {D : List (Array Value)} (h : BuiltP W w g ts ts.length cap D) (hg : W.heap.size ≤ g) (hc : ts.length ≤ cap) (hx : ts.length * 104 ≤ 140737488355328) (hm : cap ≤ 9223372036854775807)
    (hk : ∀ i (h : i < ts.length), (ts[i]).1.size ≤ 140737488355328) :
    SliceP w (fun b => W.heap.size ≤ b) ts (some ⟨g, 0, none⟩) cap (fun i => ((D.getD i #[]).toList.tail).toArray) := by
  have hD : ∀ d ∈ D, d.size = 7 := fun d hd => by
    obtain ⟨i, hi, rfl⟩ := List.getElem_of_mem hd
    obtain ⟨ds, e1, e2⟩ := h.each i (by have := h.len; omega) hi
    rw [e1]
    simp [e2.size6]
  refine ⟨⟨hc, hx, by simp, fun _ => ⟨g, 0, rfl, hg⟩, hm⟩, fun i hi bl ol e k hk' => ?_, hk, fun i hi => ?_⟩
  · simp only [Option.some.injEq, Addr.mk.injEq, and_true] at e
    obtain ⟨rfl, rfl⟩ := e
    have hi' : i < D.length := by rw [h.len]; exact hi
    obtain ⟨ds, e1, e2⟩ := h.each i hi hi'
    have eD : #[Value.string (ts[i]).1] ++ ((D.getD i #[]).toList.tail).toArray = D[i] := by
      simp only [List.getD, List.getElem?_eq_getElem hi', Option.getD_some]
      rw [e1, tail_row]
    have hk7 : k < D[i].size := by rw [← eD]; exact hk'
    have h7 := hD D[i] (List.getElem_mem hi')
    have hlt : i * 7 + k < ts.length * 7 := by omega
    rw [Nat.zero_add, h.own.cellAt (i * 7 + k) hlt, flat_get D hD i hi' k hk7]
    exact congrArg some (get_congr eD.symm k _ _)
  · have hi' : i < D.length := by rw [h.len]; exact hi
    obtain ⟨ds, e1, e2⟩ := h.each i hi hi'
    have eD : ((D.getD i #[]).toList.tail).toArray = ds := by
      simp only [List.getD, List.getElem?_eq_getElem hi', Option.getD_some]
      rw [e1, tail_row]
    rw [eD]
    exact e2.weaken fun b hb => hb.1

set_option maxHeartbeats 400000 in
theorem clonePairs_any {w0 : World} {R : Nat → Prop} {ts : List (ByteArray × T)} {a : Option Addr} {cap : Nat} {cl : Nat → Array Value} (h : SliceP w0 R ts a cap cl)
    (hc : ∀ i (p : i < ts.length) (w : World), Below w0.heap.size w0 w → Calls Tryd.prog 26 #[.agg (cl i)] w (Cloned w (ts[i]).2)) (w : World) (hw : Below w0.heap.size w0 w) :
    Calls Tryd.prog 50 #[.slice a ts.length cap] w (ClonedM w ts) := by
  have hl := h.hdr
  have ll := hl.le
  have lx := hl.big
  have HC := Lib.hid (fun i (p : i < ts.length) w hw => clonePair_any (p := ts[i]) (h.each i p) (fun w hw => hc i p w hw) w hw)
  have HK := Lib.hid h.keys
  clear hc
  obtain ⟨i0, hi, hz0, hz1, hz2⟩ := info_parts Tryd.infoP
  by_cases hn : ts.length = 0
  · go_enter Tryd.func50, Tryd.ntmps50
    go_wp2_with fail
    go_ret
    exact ⟨none, 0, cl, by rw [hn]; rfl, ⟨⟨by omega, by omega, fun _ => rfl, fun hp => absurd hp (by omega), by omega⟩, fun i hi => absurd hi (by omega), fun i hi => absurd hi (by omega), fun i hi => absurd hi (by omega)⟩, Below.refl _ _⟩
  have hn0 : ((ts.length : Int) == 0) = false := by simp; exact fun e => hn (by simp [e])
  go_enter Tryd.func50, Tryd.ntmps50
  go_wp2_with (at_make; refine wpList_make_own _ rfl _ _ 23 rfl w.heap.size 54 i0 _ 7 Tryd.underlying23 hi hz0 hz1 .i64 .i64 _ ts.length rfl rfl rfl (by rw [hz2]; omega) (by unfold maxLen; omega) (Nat.le_refl _) ?_; intro w1 hown hgrow)
  go_loopw [3, 14] (fun vn vi wr => ∃ (j : Nat) (D : List (Array Value)), vi = .int .i64 j ∧ vn = .slice (some ⟨w.heap.size, 0, none⟩) j ts.length ∧ BuiltP w wr w.heap.size ts j ts.length D ∧ Below w.heap.size w wr ∧ w.heap.size < wr.heap.size) (fun _ vi _ => ts.length - (intOf vi).toNat)
  case atStart => exact ⟨0, [], rfl, rfl, ⟨rfl, by omega, hown, fun i _ h' => absurd h' (by simp)⟩, (Below.refl _ _).grown hgrow (Nat.le_refl _) (by simp), by
    have := hown.lt w.heap.size (by simp [Value.ownBlock]); omega⟩
  case round =>
    obtain ⟨j, D, rfl, rfl, hB, hbw, hlt⟩ := hrel
    have hj := hB.le
    have hbw2 := bstep hw hbw hw.size
    by_cases hjl : j < ts.length
    · have CJ := Lib.hid (HC.out j hjl)
      obtain ⟨bl, ol, c0, c1, c2, c3, c4, c4l, c4c, c5, c5l, c5c, rfl, hcl, r0, r1, r2, r3, r4, r5, r6⟩ := openM hbw2 hl h.rows hjl (h.each j hjl)
      rw [hcl] at CJ
      clear hcl
      go_wp2_with fail
      refine (CJ.out _ (bbox hbw2 _ hbw2.size)).mono ?_
      rintro e w2 ⟨ds, rfl, hL, hb1⟩
      have hL6 := hL.six
      obtain ⟨d0, d1, d2, d3, d4, d4l, d4c, d5, d5l, d5c, rfl⟩ := hL6
      have own2 := (hB.own.alloc (.cells #[.string ts[j].1, .int .i64 c0, .bool c1, .int .i64 c2, .string c3, .slice c4 c4l c4c, .slice c5 c5l c5c] 54)).kept (grown_of_below hb1 none) (.inr (by simp [Value.ownBlock]))
      have HD := Lib.hid hB
      have hb2 := bstep hbw (bunbox hb1 (Nat.le_refl _) (by simp)) hbw.size
      clear hB
      go_wp2_with (at_builtin; refine wpList_append_fits _ rfl (.tmp 18) (.tmp 21) 23 rfl w.heap.size 54 i0 7 Tryd.underlying23 hi hz1 w.heap.size j ts.length _ rfl (own2.alloc _) ⟨w2.heap.size, 0, none⟩ 1 1 [.string ts[j].1, .int .i64 d0, .bool d1, .int .i64 d2, .string d3, .slice d4 d4l d4c, .slice d5 d5l d5c] rfl rfl ?c1 ?c2 ?c3 ?_)
      case c1 => exact fun j u hu => lit_cells w2 _ _ j u hu
      case c2 =>
        intro u hu
        simp at hu
        rcases hu with rfl | rfl | rfl | rfl | rfl | rfl | rfl <;> rfl
      case c3 => omega
      intro w3 own3 hg3
      have HB := HD.out.step hlt hbw.size hjl hb1 hL own3 hg3
      have hb3 := ((Below.alloc hb2 hb2.size _).grown hg3 (by have := hb2.size; simp; omega) (by simp))
      have hlt3 : w.heap.size < w3.heap.size := by have := hg3.size; simp at this; have := hb1.size; simp at this; omega
      have HB3 := Lib.hid HB
      have hb3' := Lib.hid hb3
      clear HB hb3
      go_wp2_with fail
      go_roundw
      case rel => exact ⟨j + 1, _, by go_num, rfl, HB3.out, hb3'.out, hlt3⟩
      case measure => simp [intOf]; omega
    · obtain rfl : j = ts.length := by omega
      have HS := Lib.hid (hB.done (Nat.le_refl _) (Nat.le_refl _) (by omega) (by omega) HK.out)
      clear hB
      go_wp2_with fail
      go_ret
      exact ⟨_, _, _, rfl, HS.out, hbw⟩

set_option maxHeartbeats 1600000 in
theorem tClone_any {w0 : World} {R : Nat → Prop} {t : T} {cs : Array Value} (h : Lies w0 R t cs) : ∀ (w : World), Below w0.heap.size w0 w → Calls Tryd.prog 26 #[.agg cs] w (Cloned w t) := by
  induction h with
  | mk k b n s l m la lc ma mc cl cm hk hn hs hl hm rl rm ks il im ihl ihm =>
    intro w hw
    have CV := Lib.hid (fun w hw => cloneValues_any (w0 := w0) ⟨hl, rl, il⟩ (fun i p w hw => ihl i p w hw) w hw)
    have CP := Lib.hid (fun w hw => clonePairs_any (w0 := w0) ⟨hm, rm, ks, im⟩ (fun i p w hw => ihm i p w hw) w hw)
    clear ihl ihm rl rm ks il im
    go_enter Tryd.func26, Tryd.ntmps26
    go_wp2_with fail
    refine (CV.out _ (bstep hw (((Below.refl _ _).alloc (Nat.le_refl _) _).alloc (by simp) _) hw.size)).mono ?_
    rintro e w1 ⟨a1, c1, dl1, rfl, hS1, hb1⟩
    obtain ⟨q0, q1, q2, q3⟩ := two_boxes hb1 (by simp)
    have hA := bstep (((Below.refl w.heap.size w).alloc (Nat.le_refl _) _).alloc (by simp) _) hb1 (by simp; omega)
    have hs1 : w.heap.size + 2 ≤ w1.heap.size := by have := hb1.size; simp at this; omega
    have hA2 := hA.setCell (p := ⟨w.heap.size, 4, none⟩) (Nat.le_refl _) (.slice a1 l.length c1)
    have x0 := q0 0
    have x1 := q0 1
    have x2 := q0 2
    have x3 := q0 3
    have x4 := q0 4
    have x5 := q0 5
    simp at x0 x1 x2 x3 x4 x5
    have f4 := q3 4
    have HS1 := Lib.hid hS1
    have Q1 := Lib.hid q1
    have Q2 := Lib.hid q2
    have Q3 := Lib.hid q3
    clear q0 q1 q2 q3 hS1
    go_wp2_with fail
    refine (CP.out _ (bstep hw hA2 hw.size)).mono ?_
    rintro e w2 ⟨a2, c2, dl2, rfl, hS2, hb2⟩
    have hs2 : w1.heap.size ≤ w2.heap.size := by have := hb2.size; simpa using this
    have y4 : (w1.setCell ⟨w.heap.size, 4, none⟩ (.slice a1 l.length c1)).cell? ⟨w.heap.size, 4, none⟩ = some (.slice a1 l.length c1) := World.cell?_setCell_same _ _ _ x4
    have go2 : ∀ j, w2.cell? ⟨w.heap.size, j, none⟩ = (w1.setCell ⟨w.heap.size, 4, none⟩ (.slice a1 l.length c1)).cell? ⟨w.heap.size, j, none⟩ := fun j => hb2.cell (p := ⟨w.heap.size, j, none⟩) (by simp; omega)
    have z0 := (go2 0).trans ((World.cell?_setCell_other _ _ _ _ (by simp)).trans x0)
    have z1 := (go2 1).trans ((World.cell?_setCell_other _ _ _ _ (by simp)).trans x1)
    have z2 := (go2 2).trans ((World.cell?_setCell_other _ _ _ _ (by simp)).trans x2)
    have z3 := (go2 3).trans ((World.cell?_setCell_other _ _ _ _ (by simp)).trans x3)
    have z4 := (go2 4).trans y4
    have z5 := (go2 5).trans ((World.cell?_setCell_other _ _ _ _ (by simp)).trans x5)
    have f5 : w2.frozen? ⟨w.heap.size, 5, none⟩ = false := by rw [hb2.frozen (p := ⟨w.heap.size, 5, none⟩) (by simp; omega), World.frozen?_setCell]; exact Q3.out 5
    have u5 : (w2.setCell ⟨w.heap.size, 5, none⟩ (.slice a2 m.length c2)).cell? ⟨w.heap.size, 5, none⟩ = some (.slice a2 m.length c2) := World.cell?_setCell_same _ _ _ z5
    have R1 : ∀ j, j < 6 → ∃ u, (w2.setCell ⟨w.heap.size, 5, none⟩ (.slice a2 m.length c2)).cell? ⟨w.heap.size + 1, j, none⟩ = some u := fun j hj => ⟨_, by
      rw [World.cell?_setCell_other _ _ _ _ (by simp), hb2.cell (p := ⟨w.heap.size + 1, j, none⟩) (by simp; omega), World.cell?_setCell_other _ _ _ _ (by simp), Q1.out j]
      exact Array.getElem?_eq_getElem (show j < 6 from hj)⟩
    have r2 : ∀ j, w2.frozen? ⟨w.heap.size + 1, j, none⟩ = false := fun j => by rw [hb2.frozen (p := ⟨w.heap.size + 1, j, none⟩) (by simp; omega), World.frozen?_setCell]; exact Q2.out j
    have RR := Lib.hid R1
    clear go2 y4 R1 x0 x1 x2 x3 x4 x5 f4
    obtain ⟨g0, hg0⟩ := RR.out 0 (by omega)
    obtain ⟨g1, hg1⟩ := RR.out 1 (by omega)
    obtain ⟨g2, hg2⟩ := RR.out 2 (by omega)
    obtain ⟨g3, hg3⟩ := RR.out 3 (by omega)
    obtain ⟨g4, hg4⟩ := RR.out 4 (by omega)
    obtain ⟨g5, hg5⟩ := RR.out 5 (by omega)
    go_wp2_with fail
    obtain ⟨dd, hu, hdd⟩ := Tryd.structV
    refine ret_cells (w2.setCell ⟨w.heap.size, 5, none⟩ (.slice a2 m.length c2)) (w.heap.size + 1) [.int .i64 k, .bool b, .int .i64 n, .string s, .slice a1 l.length c1, .slice a2 m.length c2] rfl Tryd.results26 rfl rfl hdd hu Tryd.sizeV RR.out ?_
    have hh : ∀ x, w.heap.size + 2 ≤ x → (setRow (w2.setCell ⟨w.heap.size, 5, none⟩ (.slice a2 m.length c2)) (w.heap.size + 1) 0 [.int .i64 k, .bool b, .int .i64 n, .string s, .slice a1 l.length c1, .slice a2 m.length c2]).heap[x]? = w2.heap[x]? := fun x hx => by
      rw [setRow_heap _ _ _ _ _ (by omega), Below.heap_setCell _ _ _ _ (by simp only; omega)]
    refine ⟨_, rfl, Lies.of_slices hk hn hs ((HS1.out.keepB (fun x hx hlt => ?_)).weaken (fun x hx => ?_)) ((hS2.keepB (fun x hx hlt => ?_)).weaken (fun x hx => ?_)), ?_⟩
    · simp only [World.size_alloc] at hx
      rw [hh x (by omega), hb2.block x (by simp; omega), Below.heap_setCell _ _ _ _ (by simp only; omega)]
    · simp only [World.size_alloc] at hx
      omega
    · simp only [World.size_setCell] at hx
      exact hh x (by omega)
    · simp only [World.size_setCell] at hx
      omega
    · exact setRow_below _ (by omega) _ _ _ ((bstep hA2 hb2 (by simp; omega)).setCell (by simp) _)

end Go.Proofs.YtbmlmcoepmbelaaDoor
