/-
  The example of package values' document, run.
-/
import Derived.Test.YtlniokpekcoodaaGreatDoorValSet
import Derived.Test.YtlniokpekcoodaaGreatDoorRightM
import Derived.Test.YtlniokpekcoodaaGreatDoorPathGM
import Derived.Test.YtlniokpekcoodaaGreatDoorCloneP
set_option linter.unusedVariables false
set_option linter.unusedSimpArgs false
namespace Go.Proofs.YtlniokpekcoodaaGreatDoor
open Go.RowKit Go.Sort

theorem lies_head {w : World} {R : Nat → Prop} {k : Int} {b : Bool} {n : Int} {s : ByteArray} {l : List T} {m : List (ByteArray × T)} {cs : Array Value} (h : Lies w R (.mk k b n s l m) cs) :
    ∃ (la : Option Addr) (lc : Nat) (ma : Option Addr) (mc : Nat) (cm : Nat → Array Value), cs = #[.int .i64 k, .bool b, .int .i64 n, .string s, .slice la l.length lc, .slice ma m.length mc] ∧ SliceP w R m ma mc cm := by
  cases h with
  | mk k b n s l m la lc ma mc cl cm hk hn hs hl hm rl rm ks il im => exact ⟨_, _, _, _, cm, rfl, hm, rm, ks, im⟩

def strX : T := .mk 3 false 0 ⟨#[120]⟩ [] []
def int1 : T := .mk 2 false 1 ⟨#[]⟩ [] []
def inCx : T := .mk 5 false 0 ⟨#[]⟩ [] [(⟨#[99]⟩, strX)]
def inBx : T := .mk 5 false 0 ⟨#[]⟩ [] [(⟨#[98]⟩, inCx)]
def oneA : T := .mk 5 false 0 ⟨#[]⟩ [] [(⟨#[97]⟩, int1)]
def exT : T := .mk 5 false 0 ⟨#[]⟩ [] [(⟨#[97]⟩, int1), (⟨#[98]⟩, inCx)]
theorem ex_map : T.mkMap [(⟨#[97]⟩, int1)] = oneA := by kernel_rfl
theorem ex_put : putL (stepsD [98, 46, 99]) T.none5 strX = inBx := by kernel_rfl
theorem ex_cut1 : cutB ⟨#[98]⟩ oneA.pairs = [(⟨#[97]⟩, int1)] := by kernel_rfl
theorem ex_cut2 : cutH ⟨#[98]⟩ oneA.pairs = T.nil := by kernel_rfl
theorem ex_cut3 : cutA ⟨#[98]⟩ oneA.pairs = [] := by kernel_rfl
theorem ex_over2 : T.over T.nil inCx = inCx := by
  unfold inCx
  rw [over_map, overR_cons, overR_nil]
  dsimp only
  unfold strX
  rw [over_other _ _ _ _ _ _ (by decide)]
  kernel_rfl
theorem ex_over : T.over oneA inBx = exT := by
  unfold inBx
  rw [over_map, overR_cons, overR_nil]
  dsimp only
  rw [ex_cut1, ex_cut2, ex_cut3, if_neg (show ¬ inCx.kind = 0 by decide), ex_over2]
  rfl
theorem strX_parts : strX.parts = 0 := by rw [strX, T.parts_mk]; kernel_rfl
theorem int1_parts : int1.parts = 0 := by rw [int1, T.parts_mk]; kernel_rfl
theorem inCx_parts : inCx.parts = 0 := by
  rw [inCx, T.parts_mk]
  simp only [List.map_cons, List.map_nil, strX_parts]
  kernel_rfl
theorem exT_parts : exT.parts = 0 := by
  rw [exT, T.parts_mk]
  simp only [List.map_cons, List.map_nil, inCx_parts, int1_parts]
  kernel_rfl
theorem exT_depth : exT.depth = 3 := by simp [exT, inCx, int1, strX, T.depth_mk]
theorem exT_size : exT.size = 4 := by simp [exT, inCx, int1, strX, T.size_mk]
theorem exT_check : exT.check = 0 := by
  rw [T.check, exT_depth, exT_size, exT_parts]
  rfl
theorem ex_set : setR oneA true [98, 46, 99] strX 0 = (exT, 0) := by
  have hp : (parseD [98, 46, 99]).2 = 0 := by kernel_rfl
  rw [setR, if_neg (by simp), if_neg (by rw [hp]; simp), if_neg (by simp), ex_put, ex_over, overC, if_pos exT_check]
theorem oneA_size : oneA.size = 2 := by simp [oneA, int1, T.size_mk]
theorem ex_get : exT.get ⟨#[98]⟩ = some inCx := by kernel_rfl

theorem ex_vSet (w : World) (m : Int) (hm : w.cell? ⟨0, 0, none⟩ = some (.int .i64 m)) (h0 : 0 < w.heap.size) (w1 : World) (R : Nat → Prop) (cs : Array Value) (hb : Below w.heap.size w w1) (h : Lies w1 R oneA cs) :
    Calls Tryz.prog 10 #[.agg cs, .string ⟨#[98, 46, 99, 61, 120]⟩] w1 (SetIn w1 (exT, 0)) := by
  have := vSet_any h (by rw [oneA_size]; omega) w1 (Below.refl _ _) ⟨#[98, 46, 99, 61, 120]⟩ ⟨#[98, 46, 99]⟩ ⟨#[120]⟩ true (by decide) (by unfold CutAt; kernel_rfl) m ((hb.cell (p := ⟨0, 0, none⟩) h0).trans hm) (Nat.lt_of_lt_of_le h0 hb.size)
    3 false 0 ⟨#[120]⟩ 0 (by decide) (by decide) (by decide) (by decide) (fun _ w2 _ => vWord_bare ⟨#[120]⟩ (by kernel_rfl) 3 false 0 ⟨#[120]⟩ 0 w2 (fun w3 _ => cParse_str ⟨#[120]⟩ (by decide) (by kernel_rfl) (by kernel_rfl) w3))
  rw [show setR oneA true (⟨#[98, 46, 99]⟩ : ByteArray).data.toList (.mk 3 false 0 ⟨#[120]⟩ [] []) 0 = (exT, 0) from ex_set] at this
  exact this

set_option maxRecDepth 100000 in
set_option maxHeartbeats 4000000 in
theorem l11awake_any (w : World) (m : Int) (hm : w.cell? ⟨0, 0, none⟩ = some (.int .i64 m)) (h0 : 0 < w.heap.size) : Calls Tryz.prog 8 #[] w fun e w' => e = .returned (.bool true) ∧ Below w.heap.size w w' := by
  have SE := Lib.hid (fun w1 R cs => ex_vSet w m hm h0 w1 R cs)
  have MP : Hid (∀ w1 : World, Calls Tryz.prog 25 #[.slice (some ⟨w1.heap.size, 0, none⟩) 1 1] (w1.alloc (.cells #[.string ⟨#[97]⟩, .int .i64 2, .bool false, .int .i64 1, .string ⟨#[]⟩, .slice none 0 0, .slice none 0 0] 51)) (MadeMap (w1.alloc (.cells #[.string ⟨#[97]⟩, .int .i64 2, .bool false, .int .i64 1, .string ⟨#[]⟩, .slice none 0 0, .slice none 0 0] 51)) [(⟨#[97]⟩, int1)])) := fun w1 =>
    tMap_few (one_pair (base := 0) (leafV w1 2 false 1 ⟨#[]⟩ (by decide) (by decide) (by decide)) ⟨#[97]⟩ (by decide) (fun _ _ => Nat.zero_le _) (Nat.zero_le _)) (by decide) (by decide) _ (Below.refl _ _)
  clear hm
  go_enter Tryz.func8, Tryz.ntmps8
  go_upto_region 2 with (first
    | (go_at_call 26; refine (tInt_any 1 _).mono ?_; rintro e w1 ⟨rfl, hb1⟩; have HB1 := Lib.hid hb1; clear hb1)
    | (go_at_call 25; refine (MP.out w1).mono ?_; rintro e w2 ⟨ds, rfl, hL2, hb2⟩
       rw [ex_map] at hL2
       have HL2 := Lib.hid hL2
       have HB2 := Lib.hid (bstep HB1.out (bunbox hb2 (Nat.le_refl _) (by simp)) HB1.out.size)
       clear hL2 hb2)
    | (go_at_call 10; refine (SE.out w2 _ _ HB2.out HL2.out).mono ?_; rintro e w3 ⟨es, rfl, hL3, hb3⟩
       obtain ⟨la, lc, ma, mc, cm, rfl, -⟩ := lies_head hL3
       have HL3 := Lib.hid hL3
       have HB3 := Lib.hid (bstep HB2.out hb3 HB2.out.size)
       clear hL3 hb3))
  have b3 := Box6.new w3 #[.int .i64 5, .bool false, .int .i64 0, .string ⟨#[]⟩, .slice la 0 lc, .slice ma 2 mc] 25
  have hb4 := HB3.out.alloc HB3.out.size (.cells #[.int .i64 5, .bool false, .int .i64 0, .string ⟨#[]⟩, .slice la 0 lc, .slice ma 2 mc] 25)
  have hl4 := HL3.out.later ((Below.refl w3.heap.size w3).alloc (Nat.le_refl _) (.cells #[.int .i64 5, .bool false, .int .i64 0, .string ⟨#[]⟩, .slice la 0 lc, .slice ma 2 mc] 25))
  have hs4 : w3.heap.size < (w3.alloc (.cells #[.int .i64 5, .bool false, .int .i64 0, .string ⟨#[]⟩, .slice la 0 lc, .slice ma 2 mc] 25)).heap.size := by simp
  generalize w3.alloc (.cells #[.int .i64 5, .bool false, .int .i64 0, .string ⟨#[]⟩, .slice la 0 lc, .slice ma 2 mc] 25) = v4 at b3 hb4 hl4 hs4 ⊢
  have HB4 := Lib.hid hb4
  have B3 := Lib.hid b3
  have HS4 := Lib.hid hs4
  have GE := tGet_any hl4 ⟨#[98]⟩ v4 (Below.refl _ _)
  rw [ex_get] at GE
  have HG := Lib.hid GE
  obtain ⟨x0, x1, x2, x3, x4, x5⟩ := b3.six
  clear b3 hb4 hl4 hs4 GE
  go_upto_region 3 with (go_at_call 27; refine HG.out.mono ?_; rintro e w5 ⟨gs, rfl, hG, hb5⟩; obtain ⟨la', lc', ma', mc', cm', rfl, hP⟩ := lies_head (show Lies w5 _ inCx gs from hG); have HB5 := Lib.hid hb5; have HP := Lib.hid hP; clear hG hb5 hP)
  have b6 := Box6.new w5 #[.int .i64 5, .bool false, .int .i64 0, .string ⟨#[]⟩, .slice la' 0 lc', .slice ma' 1 mc'] 25
  have hb6 := HB5.out.alloc HB5.out.size (.cells #[.int .i64 5, .bool false, .int .i64 0, .string ⟨#[]⟩, .slice la' 0 lc', .slice ma' 1 mc'] 25)
  have hp6 := HP.out.later ((Below.refl w5.heap.size w5).alloc (Nat.le_refl _) (.cells #[.int .i64 5, .bool false, .int .i64 0, .string ⟨#[]⟩, .slice la' 0 lc', .slice ma' 1 mc'] 25))
  generalize w5.alloc (.cells #[.int .i64 5, .bool false, .int .i64 0, .string ⟨#[]⟩, .slice la' 0 lc', .slice ma' 1 mc'] 25) = v6 at b6 hb6 hp6 ⊢
  obtain ⟨y0, y1, y2, y3, y4, y5⟩ := b6.six
  clear x0 x1 x2 x3 x4 x5
  obtain ⟨x0, x1, x2, x3, x4, x5⟩ := (B3.out.later hb6 HS4.out).six
  have HB6 := Lib.hid (bstep HB4.out hb6 HB4.out.size)
  have hcell : ∃ (bl o : Nat), ma' = some ⟨bl, o, none⟩ ∧ v6.cell? ⟨bl, o + 4, none⟩ = some (.string ⟨#[120]⟩) := by
    obtain ⟨bl, o, e, -⟩ := hp6.hdr.some (by simp)
    have hr := hp6.rows 0 (by simp) bl o e
    obtain ⟨la2, lc2, ma2, mc2, cm2, hcm, -⟩ := lies_head (show Lies v6 _ strX (cm' 0) from hp6.each 0 (by simp))
    rw [hcm] at hr
    exact ⟨bl, o, e, (Row.seven hr).2.2.2.2.1⟩
  obtain ⟨bl, o, rfl, hc⟩ := hcell
  clear b6 hb6 hp6
  go_wp2_with fail
  go_ret
  exact ⟨rfl, HB6.out⟩

end Go.Proofs.YtlniokpekcoodaaGreatDoor

/-
  The law's right: a map that may be, and is small.
-/
set_option linter.unusedVariables false
set_option linter.unusedSimpArgs false
namespace Go.Proofs.YtlniokpekcoodaaGreatDoor
open Go.RowKit

theorem one_value1 {w1 : World} {R1 : Nat → Prop} {t : T} {k : Int} {b : Bool} {n : Int} {s : ByteArray} {la : Option Addr} {ll lc : Nat} {ma : Option Addr} {ml mc : Nat}
    (h1 : Lies w1 R1 t #[.int .i64 k, .bool b, .int .i64 n, .string s, .slice la ll lc, .slice ma ml mc]) :
    SliceV (w1.alloc (.cells #[.int .i64 k, .bool b, .int .i64 n, .string s, .slice la ll lc, .slice ma ml mc] 25)) (fun _ => True) [t] (some ⟨w1.heap.size, 0, none⟩) 1
      (fun i => #[.int .i64 k, .bool b, .int .i64 n, .string s, .slice la ll lc, .slice ma ml mc]) := by
  have hb := Below.alloc (Below.refl w1.heap.size w1) (Nat.le_refl _) (.cells #[.int .i64 k, .bool b, .int .i64 n, .string s, .slice la ll lc, .slice ma ml mc] 25)
  refine ⟨⟨Nat.le_refl 1, (by decide : 1 * 88 ≤ 140737488355328), by simp, fun _ => ⟨_, _, rfl, trivial⟩, by omega⟩, fun i hi bl ol e => ?_, fun i hi => ?_⟩
  · simp only [Option.some.injEq, Addr.mk.injEq, and_true] at e
    obtain ⟨rfl, rfl⟩ := e
    obtain rfl : i = 0 := by simpa using hi
    intro j hj
    have hj6 : j < 6 := hj
    rw [Nat.zero_add, World.cell?_alloc_new]
    rcases (by omega : j = 0 ∨ j = 1 ∨ j = 2 ∨ j = 3 ∨ j = 4 ∨ j = 5) with rfl | rfl | rfl | rfl | rfl | rfl <;> rfl
  · obtain rfl : i = 0 := by simpa using hi
    exact (h1.later hb).weaken fun _ _ => trivial

theorem row_box6 {w : World} {g : Nat} {c0 c1 c2 c3 c4 c5 : Value} (h : Row w g 0 #[c0, c1, c2, c3, c4, c5]) : Box6 w g #[c0, c1, c2, c3, c4, c5] := fun j hj => by
  have := h j hj
  rw [Nat.zero_add] at this
  rw [this]
  exact (Array.getElem?_eq_getElem _).symm

set_option maxRecDepth 100000 in
set_option maxHeartbeats 2000000 in
theorem l11right_any {w0 : World} {R : Nat → Prop} {t : T} {cs : Array Value} (h : Lies w0 R t cs) (w : World) (hw : Below w0.heap.size w0 w) :
    Calls Tryz.prog 6 #[.agg cs] w fun e w' => e = .returned (.bool (t.good && decide (t.kind = 5))) ∧ Below w.heap.size w w' := by
  obtain ⟨c0, c1, c2, c3, c4, c4l, c4c, c5, c5l, c5c, rfl⟩ := h.six
  have hk : t.kind = c0 := by cases h; rfl
  have hb1 : Below w.heap.size w (w.alloc (.cells #[.int .i64 c0, .bool c1, .int .i64 c2, .string c3, .slice c4 c4l c4c, .slice c5 c5l c5c] 25)) := (Below.refl _ _).alloc (Nat.le_refl _) _
  have BX := Lib.hid (Box6.new w #[.int .i64 c0, .bool c1, .int .i64 c2, .string c3, .slice c4 c4l c4c, .slice c5 c5l c5c] 25)
  have hs1 : w.heap.size < (w.alloc (.cells #[.int .i64 c0, .bool c1, .int .i64 c2, .string c3, .slice c4 c4l c4c, .slice c5 c5l c5c] 25)).heap.size := by simp
  have H1 := Lib.hid (h.later (bstep hw hb1 hw.size))
  have HB1 := Lib.hid hb1
  have HS1 := Lib.hid hs1
  have HK := Lib.hid hk
  clear h hb1 hs1 hk
  obtain ⟨gb, hgb⟩ : ∃ gb, gb = t.good := ⟨_, rfl⟩
  rw [← hgb]
  have HGB := Lib.hid hgb
  clear hgb
  go_enter Tryz.func6, Tryz.ntmps6
  go_upto_region 1 with fail
  generalize w.alloc (.cells #[.int .i64 c0, .bool c1, .int .i64 c2, .string c3, .slice c4 c4l c4c, .slice c5 c5l c5c] 25) = v at *
  have HR : Hid (Calls Tryz.prog 24 #[.slice (some ⟨v.heap.size, 0, none⟩) 1 1] (v.alloc (.cells #[.int .i64 c0, .bool c1, .int .i64 c2, .string c3, .slice c4 c4l c4c, .slice c5 c5l c5c] 25)) fun e w' => e = .returned (.bool gb) ∧ Below (v.alloc (.cells #[.int .i64 c0, .bool c1, .int .i64 c2, .string c3, .slice c4 c4l c4c, .slice c5 c5l c5c] 25)).heap.size (v.alloc (.cells #[.int .i64 c0, .bool c1, .int .i64 c2, .string c3, .slice c4 c4l c4c, .slice c5 c5l c5c] 25)) w') := by
    have := right_any (one_value1 H1.out) _ (Below.refl _ _)
    rw [List.all_cons, List.all_nil, Bool.and_true, ← HGB.out] at this
    exact this
  have HV2 : Hid (Below v.heap.size v (v.alloc (.cells #[.int .i64 c0, .bool c1, .int .i64 c2, .string c3, .slice c4 c4l c4c, .slice c5 c5l c5c] 25))) := (Below.refl _ _).alloc (Nat.le_refl _) _
  obtain ⟨x0, x1, x2, x3, x4, x5⟩ := BX.out.six
  have hkd : (c0 == 5) = decide (t.kind = 5) := by rw [HK.out]; rfl
  have HKD := Lib.hid hkd
  clear hkd
  clear HGB
  cases gb <;> (
    go_wp2_with (go_at_call 24; refine HR.out.mono ?_; rintro e w3 ⟨rfl, hb⟩
                 have HB3 := Lib.hid (bunbox hb (Nat.le_refl _) (by simp))
                 clear hb x0 x1 x2 x3 x4 x5
                 obtain ⟨x0, x1, x2, x3, x4, x5⟩ := (BX.out.later HB3.out HS1.out).six)
    go_ret
    first
      | exact ⟨by rw [Bool.false_and]; rfl, bstep HB1.out HB3.out HB1.out.size⟩
      | exact ⟨by rw [Bool.true_and, ← HKD.out]; rfl, bstep HB1.out HB3.out HB1.out.size⟩)

end Go.Proofs.YtlniokpekcoodaaGreatDoor
