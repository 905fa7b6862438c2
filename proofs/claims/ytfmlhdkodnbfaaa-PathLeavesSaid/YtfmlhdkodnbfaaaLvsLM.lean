/-
  path.Leaves.
-/
import Derived.Test.YtfmlhdkodnbfaaaLvsW
import Derived.Laws.EntriesVeiled
import Derived.Test.YtfmlhdkodnbfaaaPathSM
import Derived.Test.YtfmlhdkodnbfaaaMapTopM
set_option linter.unusedVariables false
set_option linter.unusedSimpArgs false
namespace Go.Proofs.Ytfmlhdkodnbfaaa
open Go.RowKit Go.Sort

/-- A slice of leaves lies in w. -/
structure SliceK (w : World) (K : List LQ) (a : Option Addr) (cap : Nat) : Prop where
  le : K.length ≤ cap
  ofNone : a = none → cap = 0
  ofSome : 0 < K.length → ∃ b off, a = some ⟨b, off, none⟩
  rows : ∀ i (h : i < K.length), ∀ b off, a = some ⟨b, off, none⟩ → Row w b (off + i * 7) (K[i]).row
  each : ∀ i (h : i < K.length), LeafIn w (fun _ => True) K[i]
theorem SliceK.later {w w' : World} {K : List LQ} {a : Option Addr} {cap : Nat} (h : SliceK w K a cap) (hb : Below w.heap.size w w') : SliceK w' K a cap :=
  ⟨h.le, h.ofNone, h.ofSome, fun i hi b off e j hj => cells_frame hb (h.rows i hi b off e j hj), fun i hi => (h.each i hi).later hb⟩
def LeavesIn (w : World) (ls : Lvs) (e : Ending) (w' : World) : Prop := ∃ a c K, e = .returned (.slice a ls.length c) ∧ SliceK w' K a c ∧ K.map LQ.strip = ls ∧ Below w.heap.size w w'

theorem WOut.slice {B : Nat} {w w' : World} {lv sv lv' : Value} {ls : Lvs} {K : List LQ} (h : WOut B w lv sv 0 [] [] ls w' lv' K) : ∃ a c, lv' = .slice a K.length c ∧ SliceK w' K a c ∧ K.map LQ.strip = ls := by
  have hw : K.map LQ.strip = ls := by
    rw [h.what]
    exact (List.map_congr_left fun q _ => rfl).trans (List.map_id _)
  have hown := h.st.own
  rw [Nat.zero_add, List.nil_append] at hown
  have hrow : ∀ d ∈ K.map LQ.row, d.size = 7 := fun d hd => by
    obtain ⟨q, hq, rfl⟩ := List.mem_map.1 hd
    obtain ⟨i, hi, rfl⟩ := List.getElem_of_mem hq
    exact (h.each i hi).row7
  rcases hown.2 with ⟨e, hn⟩ | ⟨g', cap', cur, e, hbg, hgc, hnc, hcm, hcs, htake⟩
  · have hK : K = [] := List.eq_nil_of_length_eq_zero hn
    subst hK
    exact ⟨none, 0, e, ⟨by simp, fun _ => rfl, fun hp => absurd hp (by simp), fun i hi => absurd hi (by simp), fun i hi => absurd hi (by simp)⟩, hw⟩
  · subst e
    refine ⟨_, _, rfl, ⟨hnc, (fun e => by cases e), fun _ => ⟨g', 0, rfl⟩, fun i hi b off e k hk => ?_, fun i hi => (h.each i hi).weaken fun _ _ => trivial⟩, hw⟩
    simp only [Option.some.injEq, Addr.mk.injEq, and_true] at e
    obtain ⟨rfl, rfl⟩ := e
    have hi2 : i < (K.map LQ.row).length := by simpa using hi
    have er : (K.map LQ.row)[i] = (K[i]).row := by simp
    have hk7 : k < ((K.map LQ.row)[i]).size := by rw [er]; exact hk
    have h7 := hrow _ (List.getElem_mem hi2)
    have := flat_get (K.map LQ.row) hrow i hi2 k hk7
    rw [Nat.zero_add, hown.cellAt (i * 7 + k) (by omega), flatK, this]
    exact congrArg some (get_congr er k _ _)

set_option maxRecDepth 100000 in
set_option maxHeartbeats 4000000 in
theorem leaves_any {w0 : World} {R : Nat → Prop} {t : T} {cs : Array Value} (h : Lies w0 R t cs) (hp : t.parts = 0) (hsz : t.size ≤ 1000000) (w : World) (hw : Below w0.heap.size w0 w) :
    Calls Try.prog 8 #[.agg cs] w (LeavesIn w (leavesT t)) := by
  obtain ⟨a0, a1, a2, a3, a4, a4l, a4c, a5, a5l, a5c, rfl⟩ := h.six
  have H := Lib.hid h
  clear h
  obtain ⟨v1, hv1⟩ : ∃ v1, v1 = w.alloc (.cells #[.int .i64 a0, .bool a1, .int .i64 a2, .string a3, .slice a4 a4l a4c, .slice a5 a5l a5c] 25) := ⟨_, rfl⟩
  obtain ⟨v2, hv2⟩ : ∃ v2, v2 = v1.alloc (.cells #[.slice none 0 0] 28) := ⟨_, rfl⟩
  obtain ⟨v3, hv3⟩ : ∃ v3, v3 = v2.alloc (.cells #[.nilFunc] 47) := ⟨_, rfl⟩
  have b1 : Below w.heap.size w v1 := by rw [hv1]; exact (Below.refl _ _).alloc (Nat.le_refl _) _
  have b2 : Below v1.heap.size v1 v2 := by rw [hv2]; exact (Below.refl _ _).alloc (Nat.le_refl _) _
  have b3 : Below v2.heap.size v2 v3 := by rw [hv3]; exact (Below.refl _ _).alloc (Nat.le_refl _) _
  have s1 : v1.heap.size = w.heap.size + 1 := by rw [hv1]; simp
  have s2 : v2.heap.size = w.heap.size + 1 + 1 := by rw [hv2]; simp [s1]
  have s3 : v3.heap.size = w.heap.size + 3 := by rw [hv3]; simp [s2]
  have bx := Box6.new w #[.int .i64 a0, .bool a1, .int .i64 a2, .string a3, .slice a4 a4l a4c, .slice a5 a5l a5c] 25
  rw [← hv1] at bx
  have bx3 := bx.later ((b2.mono (by omega : w.heap.size + 1 ≤ _)).trans (b3.mono (by omega))) (by omega)
  have c2 : v2.cell? ⟨w.heap.size + 1, 0, none⟩ = some (.slice none 0 0) := by rw [hv2, ← s1, World.cell?_alloc_new]; rfl
  have f2 : v2.frozen? ⟨w.heap.size + 1, 0, none⟩ = false := by rw [hv2, ← s1, World.frozen?_alloc_new]
  have c3 : v3.cell? ⟨w.heap.size + 1 + 1, 0, none⟩ = some .nilFunc := by rw [hv3, ← s2, World.cell?_alloc_new]; rfl
  have f3 : v3.frozen? ⟨w.heap.size + 1 + 1, 0, none⟩ = false := by rw [hv3, ← s2, World.frozen?_alloc_new]
  have c23 := cells_frame b3 c2
  have f23 := (b3.frozen (p := ⟨w.heap.size + 1, 0, none⟩) (show w.heap.size + 1 < v2.heap.size by omega)).trans f2
  have b03 : Below w.heap.size w v3 := (b1.trans (b2.mono (by omega))).trans (b3.mono (by omega))
  have st0 : ∀ v4, v4 = v3.setCell ⟨w.heap.size + 1 + 1, 0, none⟩ (.func (Fn.func 21) #[] #[.pointer (some ⟨w.heap.size + 1, 0, none⟩), .pointer (some ⟨w.heap.size + 1 + 1, 0, none⟩)]) → WSt (w.heap.size + 1) v4 (.slice none 0 0) (.slice none 0 0) 0 [] [] ∧ Box6 v4 w.heap.size #[.int .i64 a0, .bool a1, .int .i64 a2, .string a3, .slice a4 a4l a4c, .slice a5 a5l a5c] ∧ Below w.heap.size w v4 ∧ v4.heap.size = w.heap.size + 3 := fun v4 e => by
    subst e
    have hk : ∀ b, b ≠ w.heap.size + 1 + 1 → (v3.setCell ⟨w.heap.size + 1 + 1, 0, none⟩ (.func (Fn.func 21) #[] #[.pointer (some ⟨w.heap.size + 1, 0, none⟩), .pointer (some ⟨w.heap.size + 1 + 1, 0, none⟩)])).heap[b]? = v3.heap[b]? := fun b hb => Below.heap_setCell _ _ _ _ hb
    refine ⟨⟨(World.cell?_of_block (a := ⟨w.heap.size + 1, 0, none⟩) (hk (w.heap.size + 1) (by omega))).trans c23, (World.frozen?_of_block (a := ⟨w.heap.size + 1, 0, none⟩) (hk (w.heap.size + 1) (by omega))).trans f23, World.cell?_setCell_same _ _ _ c3, World.ownsRow_nil _ _ _ _, World.ownsRow_nil _ _ _ _, (fun g hg => by cases hg), fun i hi => absurd hi (by simp)⟩, ?_, b03.setCell (show w.heap.size ≤ w.heap.size + 1 + 1 by omega) _, by rw [World.size_setCell]; exact s3⟩
    exact bx3.later (B := w.heap.size + 1) ((Below.refl _ _).setCell (show w.heap.size + 1 ≤ w.heap.size + 1 + 1 by omega) _) (by omega)
  have ST0 := Lib.hid st0
  have E1 := Lib.hid hv1
  have E2 := Lib.hid hv2
  have E3 := Lib.hid hv3
  clear st0 c2 f2 c23 f23 bx3 bx b1 b2 b3 s1 s2 s3 b03
  go_enter Try.func8, Try.ntmps8
  go_upto_region 3 with fail
  rw [← hv1, ← hv2, ← hv3]
  clear hv1 hv2 hv3 E1 E2 E3
  go_upto_region 4 with fail
  obtain ⟨hst, hbx, hbv, hsv⟩ := ST0.out _ rfl
  generalize v3.setCell ⟨w.heap.size + 1 + 1, 0, none⟩ (.func (Fn.func 21) #[] #[.pointer (some ⟨w.heap.size + 1, 0, none⟩), .pointer (some ⟨w.heap.size + 1 + 1, 0, none⟩)]) = v4 at hst hbx hbv hsv ⊢
  have HBV := Lib.hid hbv
  have kf := hst.fn
  have WK := Lib.hid (walk_any H.out (w.heap.size + 1) v4 (.slice none 0 0) (.slice none 0 0) 0 [] [] hp (bstep hw hbv hw.size) (by have := hw.size; omega) hst (by omega) (by simp; omega))
  obtain ⟨x0, x1, x2, x3, x4, x5⟩ := hbx.six
  clear hst hbx hbv ST0 c3 f3
  go_upto_region 5 with (go_at_call 21; refine WK.out.mono ?_; rintro e w5 ⟨rfl, lv', K, hout⟩; have HO := Lib.hid hout; clear hout)
  obtain ⟨a9, c9, rfl, hS, hw9⟩ := (show WOut _ _ _ _ _ _ _ _ _ _ _ from HO.out).slice
  have kB := HO.out.st.cell
  have HS := Lib.hid hS
  have HW9 := Lib.hid hw9
  have hb := HO.out.below
  have HB5 := Lib.hid (HBV.out.trans (hb.mono (by omega)))
  clear hS hw9 hb
  go_wp2_with fail
  go_ret
  refine ⟨a9, c9, K, ?_, HS.out, HW9.out, HB5.out⟩
  rw [← HW9.out, List.length_map]
  rfl

end Go.Proofs.Ytfmlhdkodnbfaaa

/-
  The law's awake (mizzenlaw02).
-/
set_option linter.unusedVariables false
set_option linter.unusedSimpArgs false
namespace Go.Proofs.Ytfmlhdkodnbfaaa
open Go.RowKit

theorem Lies.head {w : World} {R : Nat → Prop} {k : Int} {b : Bool} {n : Int} {s : ByteArray} {l : List T} {m : List (ByteArray × T)} {cs : Array Value} (h : Lies w R (.mk k b n s l m) cs) :
    ∃ (la : Option Addr) (lc : Nat) (ma : Option Addr) (mc : Nat), cs = #[.int .i64 k, .bool b, .int .i64 n, .string s, .slice la l.length lc, .slice ma m.length mc] := by
  cases h; exact ⟨_, _, _, _, rfl⟩
def sA : ByteArray := ⟨#[97]⟩
def sB : ByteArray := ⟨#[98]⟩
def i3 : T := .mk 2 false 3 ⟨#[]⟩ [] []
def v3 : T := putL [sA, sB] T.nil i3
theorem at_v3 : atL [sA, sB] v3 = some i3 := by
  show (v3.get sA).bind (atL [sB]) = some i3
  rw [show v3 = T.nil.put sA ((inL sA T.nil).put sB i3) from rfl, get_put]
  show ((((inL sA T.nil).put sB i3)).get sB).bind (atL []) = some i3
  rw [get_put]
  rfl
theorem prune_v3 : pruneAt [sA, sB] v3 = .mk 5 false 0 ⟨#[]⟩ [] [] := by
  rw [pruneAt, at_v3]
  kernel_rfl

theorem v3_eq : v3 = .mk 5 false 0 ⟨#[]⟩ [] [(sA, .mk 5 false 0 ⟨#[]⟩ [] [(sB, i3)])] := by kernel_rfl
theorem v3_size : v3.size ≤ 1000000 := by
  rw [v3_eq]
  simp [T.size_mk, i3]
theorem leafI (w : World) (n : Int) (hn : (Lit.int .i64 n).wf = true) : Lies w (fun _ => True) (.mk 2 false n ⟨#[]⟩ [] []) #[.int .i64 2, .bool false, .int .i64 n, .string ⟨#[]⟩, .slice none 0 0, .slice none 0 0] :=
  Lies.of_slices (cm := fun _ => #[]) (by decide) hn empty_sp (empty_sVp _ _) ⟨⟨by simp, by simp, fun _ => rfl, fun hp => absurd hp (by simp), by omega⟩, fun i hi => absurd hi (by simp), fun i hi => absurd hi (by simp), fun i hi => absurd hi (by simp)⟩
theorem two_texts (w : World) (x y : ByteArray) (hx : x.size ≤ 140737488355328) (hy : y.size ≤ 140737488355328) : SliceS (w.alloc (.cells #[.string x, .string y] 9)) [x, y] (some ⟨w.heap.size, 0, none⟩) 2 := by
  refine ⟨Nat.le_refl 2, by simp, by simp, fun _ => ⟨_, _, rfl⟩, by omega, fun i hi b off e => ?_, fun i hi => ?_⟩
  · simp only [Option.some.injEq, Addr.mk.injEq, and_true] at e
    obtain ⟨rfl, rfl⟩ := e
    have hi2 : i < 2 := hi
    rw [Nat.zero_add, World.cell?_alloc_new]
    rcases (by omega : i = 0 ∨ i = 1) with rfl | rfl <;> rfl
  · have hi2 : i < 2 := hi
    rcases (by omega : i = 0 ∨ i = 1) with rfl | rfl
    · exact hx
    · exact hy
theorem two_texts_at (w : World) : SliceS (w.alloc (.cells #[.string ⟨#[97]⟩, .string ⟨#[98]⟩] 9)) [sA, sB] (some ⟨w.heap.size, 0, none⟩) 2 := two_texts w sA sB (by decide) (by decide)

set_option maxRecDepth 100000 in
set_option maxHeartbeats 4000000 in
theorem l2awake_any (w : World) : Calls Try.prog 7 #[] w fun e w' => e = .returned (.bool true) ∧ Below w.heap.size w w' := by
  have PU : Hid (∀ w1 : World, Calls Try.prog 12 #[.agg zeroV, .agg #[.int .i64 2, .bool false, .int .i64 3, .string ⟨#[]⟩, .slice none 0 0, .slice none 0 0], .slice (some ⟨w1.heap.size, 0, none⟩) 2 2] (w1.alloc (.cells #[.string ⟨#[97]⟩, .string ⟨#[98]⟩] 9)) (PutIn (w1.alloc (.cells #[.string ⟨#[97]⟩, .string ⟨#[98]⟩] 9)) v3)) := fun w1 =>
    pPut_any (nil_lies _ (fun _ => True)) (leafI _ 3 (by decide)) (two_texts_at w1) (by decide) (by rw [T.nil_size]; omega) _ (Below.refl _ _)
  have GE : Hid (∀ (w1 : World) (R : Nat → Prop) (cs : Array Value), Lies w1 R v3 cs → Calls Try.prog 15 #[.agg cs, .slice (some ⟨w1.heap.size, 0, none⟩) 2 2] (w1.alloc (.cells #[.string ⟨#[97]⟩, .string ⟨#[98]⟩] 9)) (Got (w1.alloc (.cells #[.string ⟨#[97]⟩, .string ⟨#[98]⟩] 9)) (some i3))) := fun w1 R cs h => by
    have := pGet_any (h.later ((Below.refl _ _).alloc (Nat.le_refl _) _)) (two_texts_at w1) _ (Below.refl _ _)
    rw [at_v3] at this
    exact this
  have PR : Hid (∀ (w1 : World) (R : Nat → Prop) (cs : Array Value), Lies w1 R v3 cs → Calls Try.prog 13 #[.agg cs, .slice (some ⟨w1.heap.size, 0, none⟩) 2 2] (w1.alloc (.cells #[.string ⟨#[97]⟩, .string ⟨#[98]⟩] 9)) (PutIn (w1.alloc (.cells #[.string ⟨#[97]⟩, .string ⟨#[98]⟩] 9)) (.mk 5 false 0 ⟨#[]⟩ [] []))) := fun w1 R cs h => by
    have := pPrune_any (h.later ((Below.refl _ _).alloc (Nat.le_refl _) _)) (two_texts_at w1) (by decide) v3_size _ (Below.refl _ _)
    rw [prune_v3] at this
    exact this
  go_enter Try.func7, Try.ntmps7
  go_upto_region 2 with (first
    | (go_at_call 19; refine (tNull_any _).mono ?_; rintro e w1 ⟨rfl, hb1⟩; have HB1 := Lib.hid hb1; clear hb1)
    | (go_at_call 20; refine (tInt_any 3 _).mono ?_; rintro e w2 ⟨rfl, hb2⟩; have HB2 := Lib.hid (bstep HB1.out hb2 HB1.out.size); clear hb2)
    | (go_at_call 12; refine (PU.out w2).mono ?_; rintro e w3 ⟨ds, rfl, hL3, hb3⟩
       obtain ⟨d0, d1, d2, d3, d4, d4l, d4c, d5, d5l, d5c, rfl⟩ := hL3.six
       have HL3 := Lib.hid hL3
       have HB3 := Lib.hid (bstep HB2.out (bunbox hb3 (Nat.le_refl _) (by simp)) HB2.out.size)
       clear hL3 hb3))
  have b3 := Box6.new w3 #[.int .i64 d0, .bool d1, .int .i64 d2, .string d3, .slice d4 d4l d4c, .slice d5 d5l d5c] 25
  have hb4 := HB3.out.alloc HB3.out.size (.cells #[.int .i64 d0, .bool d1, .int .i64 d2, .string d3, .slice d4 d4l d4c, .slice d5 d5l d5c] 25)
  have hl4 := HL3.out.later ((Below.refl w3.heap.size w3).alloc (Nat.le_refl _) (.cells #[.int .i64 d0, .bool d1, .int .i64 d2, .string d3, .slice d4 d4l d4c, .slice d5 d5l d5c] 25))
  have hs4 : w3.heap.size < (w3.alloc (.cells #[.int .i64 d0, .bool d1, .int .i64 d2, .string d3, .slice d4 d4l d4c, .slice d5 d5l d5c] 25)).heap.size := by simp
  generalize w3.alloc (.cells #[.int .i64 d0, .bool d1, .int .i64 d2, .string d3, .slice d4 d4l d4c, .slice d5 d5l d5c] 25) = v4 at b3 hb4 hl4 hs4 ⊢
  have HL4 := Lib.hid hl4
  have HB4 := Lib.hid hb4
  have B3 := Lib.hid b3
  have HS4 := Lib.hid hs4
  obtain ⟨x0, x1, x2, x3, x4, x5⟩ := b3.six
  clear b3 hb4 hl4 hs4
  go_upto_region 3 with (go_at_call 15; refine (GE.out v4 _ _ HL4.out).mono ?_; rintro e w5 ⟨gs, rfl, hG, hb5⟩; obtain ⟨la, lc, ma, mc, rfl⟩ := Lies.head (show Lies w5 _ (.mk 2 false 3 ⟨#[]⟩ [] []) gs from hG); have HB5 := Lib.hid (bunbox hb5 (Nat.le_refl _) (by simp)); clear hG hb5)
  have b6 := Box6.new w5 #[.int .i64 2, .bool false, .int .i64 3, .string ⟨#[]⟩, .slice la ([] : List T).length lc, .slice ma ([] : List (ByteArray × T)).length mc] 25
  have hb6 := HB5.out.alloc HB5.out.size (.cells #[.int .i64 2, .bool false, .int .i64 3, .string ⟨#[]⟩, .slice la ([] : List T).length lc, .slice ma ([] : List (ByteArray × T)).length mc] 25)
  have hs6 : w5.heap.size < (w5.alloc (.cells #[.int .i64 2, .bool false, .int .i64 3, .string ⟨#[]⟩, .slice la ([] : List T).length lc, .slice ma ([] : List (ByteArray × T)).length mc] 25)).heap.size := by simp
  generalize w5.alloc (.cells #[.int .i64 2, .bool false, .int .i64 3, .string ⟨#[]⟩, .slice la ([] : List T).length lc, .slice ma ([] : List (ByteArray × T)).length mc] 25) = v6 at b6 hb6 hs6 ⊢
  have HB6 := Lib.hid hb6
  have B6 := Lib.hid b6
  have HS6 := Lib.hid hs6
  have HL6 := Lib.hid (HL4.out.later hb6)
  clear x0 x1 x2 x3 x4 x5
  obtain ⟨x0, x1, x2, x3, x4, x5⟩ := (B3.out.later hb6 HS4.out).six
  clear b6 hb6 hs6
  go_upto_region 4 with (go_at_call 13; refine (PR.out v6 _ _ HL6.out).mono ?_; rintro e w7 ⟨ps, rfl, hP, hb7⟩; obtain ⟨pa, pc, qa, qc, rfl⟩ := hP.head; have HB7 := Lib.hid (bunbox hb7 (Nat.le_refl _) (by simp)); clear hP hb7)
  have b8 := Box6.new w7 #[.int .i64 5, .bool false, .int .i64 0, .string ⟨#[]⟩, .slice pa ([] : List T).length pc, .slice qa ([] : List (ByteArray × T)).length qc] 25
  have hb8 := HB7.out.alloc HB7.out.size (.cells #[.int .i64 5, .bool false, .int .i64 0, .string ⟨#[]⟩, .slice pa ([] : List T).length pc, .slice qa ([] : List (ByteArray × T)).length qc] 25)
  generalize w7.alloc (.cells #[.int .i64 5, .bool false, .int .i64 0, .string ⟨#[]⟩, .slice pa ([] : List T).length pc, .slice qa ([] : List (ByteArray × T)).length qc] 25) = v8 at b8 hb8 ⊢
  clear x0 x1 x2 x3 x4 x5
  obtain ⟨x0, x1, x2, x3, x4, x5⟩ := (B6.out.later hb8 HS6.out).six
  obtain ⟨y0, y1, y2, y3, y4, y5⟩ := b8.six
  have HB8 := Lib.hid hb8
  clear b8 hb8
  go_wp2_with fail
  go_ret
  exact ⟨rfl, bstep HB4.out (bstep HB6.out HB8.out HB6.out.size) HB4.out.size⟩

end Go.Proofs.Ytfmlhdkodnbfaaa
