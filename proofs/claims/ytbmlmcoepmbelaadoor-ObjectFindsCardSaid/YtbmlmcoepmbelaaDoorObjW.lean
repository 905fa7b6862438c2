/-
  slices.SortFunc over objects: a permutation, in order.
-/
import Derived.Test.YtbmlmcoepmbelaaDoorObjV
set_option linter.unusedVariables false
set_option linter.unusedSimpArgs false
namespace Go.Proofs.YtbmlmcoepmbelaaDoor
open Go.RowKit Go.Sort

theorem Box9.mid (w : World) (cs ds : Array Value) (t u : TypeId) : Box9 ((w.alloc (.cells cs t)).alloc (.cells ds u)) w.heap.size cs := (Box9.new w cs t).later ((Below.refl (w.heap.size + 1) _).alloc (by simp) _) (by omega)

set_option maxRecDepth 100000 in
theorem oSort1_gr (x y : OC) (w : World) (hw : RankTab w) :
    Calls Tryd.prog 41 #[.agg (encO x).toArray, .agg (encO y).toArray] w fun e w' => e = .returned (.int .i64 (ordO x y)) ∧ Gr w w' := by
  obtain ⟨k, p, n, q0, q1, q2, q3, q4, q4l, q4c, q5, q5l, q5c⟩ := x
  obtain ⟨k', p', n', r0, r1, r2, r3, r4, r4l, r4c, r5, r5l, r5c⟩ := y
  show Calls Tryd.prog 41 #[.agg #[.string k, .string p, .string n, .int .i64 q0, .bool q1, .int .i64 q2, .string q3, .slice q4 q4l q4c, .slice q5 q5l q5c], .agg #[.string k', .string p', .string n', .int .i64 r0, .bool r1, .int .i64 r2, .string r3, .slice r4 r4l r4c, .slice r5 r5l r5c]] w _
  have hlt := hw.lt
  have e1 : (w.alloc (.cells #[.string k, .string p, .string n, .int .i64 q0, .bool q1, .int .i64 q2, .string q3, .slice q4 q4l q4c, .slice q5 q5l q5c] 31)).heap.size = w.heap.size + 1 := by simp
  have hb2 : Below w.heap.size w ((w.alloc (.cells #[.string k, .string p, .string n, .int .i64 q0, .bool q1, .int .i64 q2, .string q3, .slice q4 q4l q4c, .slice q5 q5l q5c] 31)).alloc (.cells #[.string k', .string p', .string n', .int .i64 r0, .bool r1, .int .i64 r2, .string r3, .slice r4 r4l r4c, .slice r5 r5l r5c] 31)) := ((Below.refl _ _).alloc (Nat.le_refl _) _).alloc (by simp) _
  have bx := Box9.mid w #[.string k, .string p, .string n, .int .i64 q0, .bool q1, .int .i64 q2, .string q3, .slice q4 q4l q4c, .slice q5 q5l q5c] #[.string k', .string p', .string n', .int .i64 r0, .bool r1, .int .i64 r2, .string r3, .slice r4 r4l r4c, .slice r5 r5l r5c] 31 31
  have bY := Box9.new (w.alloc (.cells #[.string k, .string p, .string n, .int .i64 q0, .bool q1, .int .i64 q2, .string q3, .slice q4 q4l q4c, .slice q5 q5l q5c] 31)) #[.string k', .string p', .string n', .int .i64 r0, .bool r1, .int .i64 r2, .string r3, .slice r4 r4l r4c, .slice r5 r5l r5c] 31
  rw [e1] at bY
  have hd : w.drawn ≤ ((w.alloc (.cells #[.string k, .string p, .string n, .int .i64 q0, .bool q1, .int .i64 q2, .string q3, .slice q4 q4l q4c, .slice q5 q5l q5c] 31)).alloc (.cells #[.string k', .string p', .string n', .int .i64 r0, .bool r1, .int .i64 r2, .string r3, .slice r4 r4l r4c, .slice r5 r5l r5c] 31)).drawn := by simp
  have RT := Lib.hid (hw.later hb2 hlt)
  have HB := Lib.hid hb2
  have HD := Lib.hid hd
  obtain ⟨x0, x1, x2, -⟩ := bx.nine
  obtain ⟨y0, y1, y2, -⟩ := bY.nine
  clear e1 hb2 bx bY hd hw
  go_enter Tryd.func41, Tryd.ntmps41
  go_upto_region 1 with fail
  generalize (w.alloc (.cells #[.string k, .string p, .string n, .int .i64 q0, .bool q1, .int .i64 q2, .string q3, .slice q4 q4l q4c, .slice q5 q5l q5c] 31)).alloc (.cells #[.string k', .string p', .string n', .int .i64 r0, .bool r1, .int .i64 r2, .string r3, .slice r4 r4l r4c, .slice r5 r5l r5c] 31) = v at *
  go_wp2_with (go_at_call 18; refine (oCompare_gr _ _ _ _ _ _ _ RT.out).mono ?_; rintro e w3 ⟨rfl, hb3, hd3⟩; have HB3 := Lib.hid hb3; have HD3 := Lib.hid hd3; clear hb3 hd3)
  go_ret
  exact ⟨rfl, bstep HB.out HB3.out HB.out.size, Nat.le_trans HD.out HD3.out⟩

theorem heap_sortO (w : World) (blk off m : Nat) (dk : Array OC) (os : Array Obj) (g : Nat) (hg : g ≠ blk) (hl : g < w.heap.size) : (sortWorldK encO 9 w blk off m dk os).heap[g]? = w.heap[g]? := by
  unfold sortWorldK
  rw [heap_grow_old _ _ (by simpa [putRowK, putRow, mapBlock] using hl)]
  unfold putRowK putRow mapBlock
  simp only [Array.getElem?_modify]
  rw [if_neg (fun e => hg e.symm)]
  rfl
theorem cmpLaysO (w : World) (hw : RankTab w) (blk off size : Nat) (hb : 0 ≠ blk) : CmpLays Tryd.prog 41 #[] encO 9 ordO blk off size w := fun m os dk hs x y => by
  have hr : RankTab (sortWorldK encO 9 w blk off m dk os) := by
    obtain ⟨t, fr, h⟩ := hw
    exact ⟨t, fr, (heap_sortO w blk off m dk os 0 hb (Array.getElem?_eq_some_iff.1 h).1).trans h⟩
  have := oSort1_gr x y _ hr
  simp only [Array.append_empty]
  exact this.mono fun e w' ⟨he, hg⟩ => ⟨he, hg.grown⟩

theorem below_sortO {w : World} {blk off m : Nat} {dk : Array OC} {os : Array Obj} {B : Nat} (hB : B ≤ blk) (hl : B ≤ w.heap.size) : Below B w (sortWorldK encO 9 w blk off m dk os) := by
  refine ⟨rfl, rfl, rfl, ?_, fun k hk => heap_sortO w blk off m dk os k (by omega) (by omega)⟩
  unfold sortWorldK
  simp [putRowK, putRow, mapBlock]

/-- SortFunc, of objects in a row of one's own. -/
theorem sSortO_any {B : Nat} (g cap : Nat) (d : Array OC) (w : World) (hw : RankTab w) (hH : HoldsK encO 9 w g 0 d) (hg : g < w.heap.size) (hB : B ≤ g) (hr : 0 < B) (hsz : d.size ≤ 1000000) (hp : 0 < d.size) :
    Calls Tryd.prog 40 #[.slice (some ⟨g, 0, none⟩) d.size cap, .func (Fn.func 41) #[] #[]] w fun e w' => e = .returned (.tuple #[]) ∧ ∃ d' : Array OC, d'.size = d.size ∧ d'.toList.Perm d.toList ∧ (∀ i j, i < j → j < d.size → ¬ ordO d'[j]! d'[i]! < 0) ∧ HoldsK encO 9 w' g 0 d' ∧ Below B w w' := by
  have eg : ∀ args w, (callFunc 41 args).run Tryd.prog w = .ok (.enter 41 args) w := enters_of Tryd.func41 (by kernel_rfl) rfl
  have hcon := AnyQ.slices_SortFunc Tryd.sortObj 9 Tryd.isAgg31 Tryd.sizeOf31 encO encO_len encO_one ordO swo_ordO 41 #[] g 0 cap d w eg (cmpLaysO w hw g 0 d.size (by omega)) hH hg (by omega)
  change Calls Tryd.prog 40 _ _ _ at hcon
  refine hcon.mono ?_
  rintro e w' ⟨rfl, d', n, os, ⟨h1, h2, h3⟩, hs, rfl⟩
  refine ⟨rfl, d', h1, ?_, fun i j hij hj hl => ?_, holdsK_sortWorldK_c encO 9 w g 0 d d' n os hH hg h1, below_sortO hB (by omega)⟩
  · have e1 : d'.extract 0 d.size = d' := by rw [← h1]; simp
    have e2 : d.extract 0 d.size = d := by simp
    rw [e1, e2] at h3
    exact h3
  · have := hs i j (Nat.zero_le _) hij hj
    unfold ltOf at this
    rw [decide_eq_false_iff_not] at this
    exact this hl

end Go.Proofs.YtbmlmcoepmbelaaDoor
