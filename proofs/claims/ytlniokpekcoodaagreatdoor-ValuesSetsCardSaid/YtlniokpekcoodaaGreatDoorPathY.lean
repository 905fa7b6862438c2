/-
  Package path's way.
-/
import Derived.Test.YtlniokpekcoodaaGreatDoorPathX
set_option linter.unusedVariables false
set_option linter.unusedSimpArgs false
namespace Go.Proofs.YtlniokpekcoodaaGreatDoor
open Go.RowKit

theorem Box6.same {w w' : World} {g : Nat} {cs : Array Value} (h : Box6 w g cs) (e : w'.heap[g]? = w.heap[g]?) : Box6 w' g cs := fun j hj => (World.cell?_of_block e).trans (h j hj)
theorem Thaw.same {w w' : World} {g : Nat} (h : Thaw w g) (e : w'.heap[g]? = w.heap[g]?) : Thaw w' g := fun j => (World.frozen?_of_block e).trans (h j)
theorem own_same {w w' : World} {base g n cap size : Nat} {e : TypeId} {xs : List Value} (h : w.ownsRow base e size (.slice (some ⟨g, 0, none⟩) n cap) n xs) (he : w'.heap[g]? = w.heap[g]?) : w'.ownsRow base e size (.slice (some ⟨g, 0, none⟩) n cap) n xs := by
  refine ⟨h.1, ?_⟩
  rcases h.2 with ⟨e, _⟩ | ⟨g', c', cur, e, hb, hg, rest⟩
  · cases e
  · obtain ⟨rfl, rfl⟩ : g = g' ∧ cap = c' := by simpa using e
    exact .inr ⟨g, cap, cur, rfl, hb, he.trans hg, rest⟩

/-- What has been laid of a way. -/
structure WayB (w0 : World) (R : Nat → Prop) (w : World) (base g : Nat) (ts : List T) (j cap : Nat) (D : List (Array Value)) : Prop where
  len : D.length = j
  own : w.ownsRow base 25 6 (.slice (some ⟨g, 0, none⟩) j cap) j (D.flatMap Array.toList)
  each : ∀ i (h : i < D.length) (h2 : i < ts.length), Lies w0 R ts[i] D[i]

theorem WayB.done {w0 : World} {R : Nat → Prop} {w : World} {base g cap : Nat} {ts : List T} {D : List (Array Value)} (h : WayB w0 R w base g ts ts.length cap D) (hw : Below w0.heap.size w0 w) (hg : base ≤ g) (hx : ts.length * 88 ≤ 140737488355328) (hc : ts.length ≤ cap) (hm : cap ≤ 9223372036854775807) :
    SliceV w (fun b => R b ∨ base ≤ b) ts (some ⟨g, 0, none⟩) cap (fun i => D.getD i #[]) := by
  have hD : ∀ d ∈ D, d.size = 6 := fun d hd => by
    obtain ⟨i, hi, rfl⟩ := List.getElem_of_mem hd
    exact (h.each i hi (by have := h.len; omega)).size6
  refine ⟨⟨hc, hx, by simp, fun _ => ⟨g, 0, rfl, .inr hg⟩, hm⟩, fun i hi bl ol e k hk' => ?_, fun i hi => ?_⟩
  · simp only [Option.some.injEq, Addr.mk.injEq, and_true] at e
    obtain ⟨rfl, rfl⟩ := e
    have hi' : i < D.length := by rw [h.len]; exact hi
    have eD : D.getD i #[] = D[i] := by simp [List.getD, List.getElem?_eq_getElem hi']
    have hk6 : k < D[i].size := by rw [← eD]; exact hk'
    have h6 := hD D[i] (List.getElem_mem hi')
    have hlt : i * 6 + k < ts.length * 6 := by omega
    rw [Nat.zero_add, h.own.cellAt (i * 6 + k) hlt, flat_get D hD i hi' k hk6]
    exact congrArg some (get_congr eD.symm k _ _)
  · have hi' : i < D.length := by rw [h.len]; exact hi
    have eD : D.getD i #[] = D[i] := by simp [List.getD, List.getElem?_eq_getElem hi']
    rw [eD]
    exact ((h.each i hi' hi).later hw).weaken fun b hb => .inl hb

theorem WayB.push {w0 : World} {R : Nat → Prop} {w w' : World} {base g j cap : Nat} {ts : List T} {D : List (Array Value)} (h : WayB w0 R w base g ts j cap D) {t : T} {ds : Array Value} (hL : Lies w0 R t ds) (hj : ∀ h : j < ts.length, ts[j] = t)
    (own : w'.ownsRow base 25 6 (.slice (some ⟨g, 0, none⟩) (j + 1) cap) (j + 1) (D.flatMap Array.toList ++ ds.toList)) : WayB w0 R w' base g ts (j + 1) cap (D ++ [ds]) := by
  refine ⟨by simp [h.len], by simpa using own, fun i hi h2 => ?_⟩
  by_cases hij : i < D.length
  · rw [List.getElem_append_left hij]
    exact h.each i hij h2
  · obtain rfl : i = j := by have := h.len; simp at hi; omega
    rw [List.getElem_append_right (by omega)]
    simp only [h.len, Nat.sub_self, List.getElem_cons_zero]
    rw [hj h2]
    exact hL
theorem WayB.keep {w0 : World} {R : Nat → Prop} {w w' : World} {base g j cap : Nat} {ts : List T} {D : List (Array Value)} (h : WayB w0 R w base g ts j cap D) (e : w'.heap[g]? = w.heap[g]?) : WayB w0 R w' base g ts j cap D := ⟨h.len, own_same h.own e, h.each⟩

def WayTo (w0 : World) (R : Nat → Prop) (w : World) (ts : List T) (e : Ending) (w' : World) : Prop := ∃ a cap cl, e = .returned (.slice a ts.length cap) ∧ SliceV w' (fun b => R b ∨ w.heap.size ≤ b) ts a cap cl ∧ Below w.heap.size w w'

set_option maxRecDepth 100000 in
set_option maxHeartbeats 4000000 in
theorem way_any {w0 : World} {R : Nat → Prop} {t : T} {cs : Array Value} {ks : List ByteArray} {sa : Option Addr} {sc : Nat} (h : Lies w0 R t cs) (hS : SliceS w0 ks sa sc) (hn : ks.length ≤ 1000000) (w : World) (hw : Below w0.heap.size w0 w) :
    Calls Tryz.prog 60 #[.agg cs, .slice sa ks.length sc] w (WayTo w0 R w (wayL ks t)) := by
  have H := Lib.hid h
  have HS := Lib.hid hS
  have ll := hS.le
  have lx := hS.big
  have HWL := Lib.hid (way_len ks t)
  obtain ⟨k, b, n, s, la, ll2, lc, ma, ml, mc, rfl⟩ := h.six
  obtain ⟨i0, hi, hz0, hz1, hz2⟩ := info_parts Tryz.infoV
  clear h hS
  have B0 := Lib.hid (Box6.new w #[.int .i64 k, .bool b, .int .i64 n, .string s, .slice la ll2 lc, .slice ma ml mc] 25)
  have T0 := Lib.hid (Thaw.new w #[.int .i64 k, .bool b, .int .i64 n, .string s, .slice la ll2 lc, .slice ma ml mc] 25)
  have hsz : (w.alloc (.cells #[.int .i64 k, .bool b, .int .i64 n, .string s, .slice la ll2 lc, .slice ma ml mc] 25)).heap.size = w.heap.size + 1 := by simp
  have HB := Lib.hid ((Below.refl w.heap.size w).alloc (Nat.le_refl _) (.cells #[.int .i64 k, .bool b, .int .i64 n, .string s, .slice la ll2 lc, .slice ma ml mc] 25))
  generalize hv : w.alloc (.cells #[.int .i64 k, .bool b, .int .i64 n, .string s, .slice la ll2 lc, .slice ma ml mc] 25) = v at B0 T0 HB hsz
  have HSZ := Lib.hid hsz
  have hvs : w.heap.size < v.heap.size := by omega
  have hvs2 : v.heap.size ≤ w.heap.size + 1 := by omega
  have HV := Lib.hid hv
  clear hsz hv
  go_enter Tryz.func60, Tryz.ntmps60
  go_upto_region 1 with fail
  rw [HV.out]
  go_upto_region 2 with (at_make; refine wpList_make_own _ rfl _ _ 22 rfl v.heap.size 25 i0 _ 6 Tryz.underlying22 hi hz0 hz1 .i64 .i64 _ ks.length rfl rfl rfl (by rw [hz2]; omega) (by unfold maxLen; omega) (Nat.le_refl _) ?_; intro w1 hown hgrow)
  have hgr : ∀ b, b < v.heap.size → w1.heap[b]? = v.heap[b]? := fun b hb => hgrow.block b hb (by simp)
  have hlt1 : v.heap.size < w1.heap.size := (hown.lt v.heap.size (by simp [Value.ownBlock])).2
  have B1 := Lib.hid (B0.out.same (hgr _ (by omega)))
  have T1 := Lib.hid (T0.out.same (hgr _ (by omega)))
  have HB1 := Lib.hid (HB.out.grown hgrow (by omega) (by simp))
  have HO := Lib.hid hown
  clear hown hgrow hgr
  go_wp2_with fail
  go_loopw [5, 13] (fun vn vi wr => ∃ (j : Nat) (cur : T) (ds : Array Value) (D : List (Array Value)), j ≤ ks.length ∧ vi = .int .i64 j ∧ vn = .slice (some ⟨v.heap.size, 0, none⟩) j ks.length ∧ Hid (Lies w0 R cur ds) ∧ Hid ((wayL ks t).drop j = wayL (ks.drop j) cur) ∧ Hid (Box6 wr w.heap.size ds) ∧ Hid (Thaw wr w.heap.size) ∧ Hid (WayB w0 R wr v.heap.size v.heap.size (wayL ks t) j ks.length D) ∧ Below w.heap.size w wr ∧ v.heap.size < wr.heap.size) (fun _ vi _ => ks.length - (intOf vi).toNat)
  case atStart => exact ⟨0, t, _, [], by omega, rfl, rfl, H, rfl, B1, T1, ⟨rfl, HO.out, fun i h => absurd h (by simp)⟩, HB1.out, hlt1⟩
  case round =>
    obtain ⟨j, cur, ds, D, hj, rfl, rfl, HL, HA, HX, HT, HW, hbw, hlw⟩ := hrel
    obtain ⟨d0, d1, d2, d3, d4, d4l, d4c, d5, d5l, d5c, rfl⟩ := HL.out.six
    obtain ⟨x0, x1, x2, x3, x4, x5⟩ := HX.out.six
    have hbr := bstep hw hbw hw.size
    by_cases hjl : j < ks.length
    · obtain ⟨sb, so, rfl, kc⟩ := HS.out.at hbr hjl
      have hlone := HL.out.one
      have own2 := HW.out.own.alloc (.cells #[.int .i64 d0, .bool d1, .int .i64 d2, .string d3, .slice d4 d4l d4c, .slice d5 d5l d5c] 25)
      have OWN2 := Lib.hid own2
      clear own2
      go_upto_region 6 with (at_builtin; refine wpList_append_fits _ rfl (.tmp 17) (.tmp 19) 22 rfl v.heap.size 25 i0 6 Tryz.underlying22 hi hz1 v.heap.size j ks.length _ rfl OWN2.out ⟨wr.heap.size, 0, none⟩ 1 1 [.int .i64 d0, .bool d1, .int .i64 d2, .string d3, .slice d4 d4l d4c, .slice d5 d5l d5c] rfl rfl (fun j u hu => lit_cells wr _ _ j u hu) hlone (by omega) ?_; intro w3 own3 hg3)
      have hgb : ∀ b, b < wr.heap.size → b ≠ v.heap.size → w3.heap[b]? = wr.heap[b]? := fun b hb hne => (hg3.block b (by simp; omega) (by simpa using hne)).trans (Below.heap_alloc _ _ _ hb)
      have hs3 : wr.heap.size + 1 ≤ w3.heap.size := by have := hg3.size; simpa using this
      have hb3 : Below w.heap.size w w3 := (hbw.alloc hbw.size _).grown hg3 (by simp; omega) (by simp; omega)
      have HX3 := Lib.hid (HX.out.same (hgb w.heap.size (by omega) (by omega)))
      have HT3 := Lib.hid (HT.out.same (hgb w.heap.size (by omega) (by omega)))
      have hwj : ∀ h : j < (wayL ks t).length, (wayL ks t)[j] = cur := fun h => by
        have e := HA.out
        rw [List.drop_eq_getElem_cons h, List.drop_eq_getElem_cons hjl, wayL] at e
        exact (List.cons.inj e).1
      have HW3 := Lib.hid (HW.out.push (w' := w3) HL.out hwj own3)
      have hnext : (wayL ks t).drop (j + 1) = wayL (ks.drop (j + 1)) (inL ks[j] cur) := by
        have e := HA.out
        rw [List.drop_eq_getElem_cons (by rw [HWL.out]; exact hjl), List.drop_eq_getElem_cons hjl, wayL] at e
        exact (List.cons.inj e).2
      have HN := Lib.hid hnext
      have HC := Lib.hid (child_any HL.out ks[j])
      obtain ⟨y0, y1, y2, y3, y4, y5⟩ := HX3.out.six
      have HB3 := Lib.hid hb3
      clear x0 x1 x2 x3 x4 x5 kc hgb hwj hnext own3 hb3 hg3 hlone
      go_wp2_with fail
      refine (HC.out w3 (bstep hw HB3.out hw.size)).mono ?_
      rintro e w4 ⟨es, rfl, hL4, hb4⟩
      have hL4' : Lies w0 R (inL ks[j] cur) es := hL4
      obtain ⟨e0, e1, e2, e3, e4, e4l, e4c, e5, e5l, e5c, rfl⟩ := hL4.six
      have HL4 := Lib.hid hL4'
      have hs4 := hb4.size
      have HX4 := Lib.hid (HX3.out.later hb4 (by omega))
      have HT4 := Lib.hid (HT3.out.later hb4 (by omega))
      obtain ⟨z0, z1, z2, z3, z4, z5⟩ := HX4.out.six
      obtain ⟨f0, f1, f2, f3, f4, f5⟩ := HT4.out.six
      have HW4 := Lib.hid (HW3.out.keep (w' := w4) (hb4.block v.heap.size (by omega)))
      have HB4 := Lib.hid (bstep HB3.out hb4 HB3.out.size)
      clear hL4 hL4' hb4 y0 y1 y2 y3 y4 y5
      go_upto_region 7 with fail
      show Code.wp _ _ _ _ (setRow w4 w.heap.size 0 [.int .i64 e0, .bool e1, .int .i64 e2, .string e3, .slice e4 e4l e4c, .slice e5 e5l e5c])
      have hx5 := HX4.out.store rfl (.int .i64 e0) (.bool e1) (.int .i64 e2) (.string e3) (.slice e4 e4l e4c) (.slice e5 e5l e5c)
      have ht5 := HT4.out.store (g2 := w.heap.size) [.int .i64 e0, .bool e1, .int .i64 e2, .string e3, .slice e4 e4l e4c, .slice e5 e5l e5c] 0
      have hw5 := HW4.out.keep (w' := setRow w4 w.heap.size 0 [.int .i64 e0, .bool e1, .int .i64 e2, .string e3, .slice e4 e4l e4c, .slice e5 e5l e5c]) (setRow_heap _ _ _ _ _ (by omega))
      have hb5 := setRow_below w.heap.size (Nat.le_refl _) [.int .i64 e0, .bool e1, .int .i64 e2, .string e3, .slice e4 e4l e4c, .slice e5 e5l e5c] _ 0 HB4.out
      have hs5 : v.heap.size < (setRow w4 w.heap.size 0 [.int .i64 e0, .bool e1, .int .i64 e2, .string e3, .slice e4 e4l e4c, .slice e5 e5l e5c]).heap.size := by rw [setRow_size]; omega
      generalize setRow w4 w.heap.size 0 [.int .i64 e0, .bool e1, .int .i64 e2, .string e3, .slice e4 e4l e4c, .slice e5 e5l e5c] = W5 at hx5 ht5 hw5 hb5 hs5 ⊢
      have HX5 := Lib.hid hx5
      have HT5 := Lib.hid ht5
      have HW5 := Lib.hid hw5
      have HB5 := Lib.hid hb5
      clear hx5 ht5 hw5 hb5 z0 z1 z2 z3 z4 z5 f0 f1 f2 f3 f4 f5
      go_wp2_with fail
      go_roundw
      case rel => exact ⟨j + 1, inL ks[j] cur, _, _, by omega, by go_num, rfl, HL4, HN, HX5, HT5, HW5, HB5.out, hs5⟩
      case measure => simp [intOf]; omega
    · obtain rfl : j = ks.length := by omega
      have hd := HW.out
      rw [show ks.length = (wayL ks t).length from HWL.out.symm] at hd
      have HD := Lib.hid (hd.done hbr (by omega) (by rw [HWL.out]; omega) (Nat.le_refl _) (by rw [HWL.out]; omega))
      clear hd
      go_wp2_with fail
      go_ret
      refine ⟨some ⟨v.heap.size, 0, none⟩, ks.length, fun i => D.getD i #[], congrArg (fun q => Ending.returned (Value.slice (some ⟨v.heap.size, 0, none⟩) q ks.length)) HWL.out.symm, ?_, hbw⟩
      have := HD.out
      rw [show (wayL ks t).length = ks.length from HWL.out] at this
      exact this.weaken fun b hb => hb.imp id (fun h => by omega)

end Go.Proofs.YtlniokpekcoodaaGreatDoor
