/-
  The law's awake (mizzenlaw02).
-/
import Derived.Test.YtbbpipjadniafaaDoorPathS
import Derived.Test.YtbbpipjadniafaaDoorAwake
set_option linter.unusedVariables false
set_option linter.unusedSimpArgs false
namespace Go.Proofs.YtbbpipjadniafaaDoor
open Go.RowKit

theorem Lies.head {w : World} {R : Nat → Prop} {k : Int} {b : Bool} {n : Int} {s : ByteArray} {l : List T} {m : List (ByteArray × T)} {cs : Array Value} (h : Lies w R (.mk k b n s l m) cs) :
    ∃ (la : Option Addr) (lc : Nat) (ma : Option Addr) (mc : Nat), cs = #[.int .i64 k, .bool b, .int .i64 n, .string s, .slice la l.length lc, .slice ma m.length mc] := by
  cases h; exact ⟨_, _, _, _, rfl⟩
def sA : ByteArray := ⟨#[97]⟩
def sB : ByteArray := ⟨#[98]⟩
def i3 : T := .mk 2 false 3 ⟨#[]⟩ [] []
def v3 : T := putL [sA, sB] T.nil i3
theorem at_v3 : atL [sA, sB] v3 = some i3 := by
  show (v3.get sA).bind (atL [sB]) = some i3
  rw [show v3 = T.nil.put sA ((inL sA T.nil).put sB i3) from rfl, get_put]
  show ((((inL sA T.nil).put sB i3)).get sB).bind (atL []) = some i3
  rw [get_put]
  rfl
theorem prune_v3 : pruneAt [sA, sB] v3 = .mk 5 false 0 ⟨#[]⟩ [] [] := by
  rw [pruneAt, at_v3]
  kernel_rfl

theorem v3_eq : v3 = .mk 5 false 0 ⟨#[]⟩ [] [(sA, .mk 5 false 0 ⟨#[]⟩ [] [(sB, i3)])] := by kernel_rfl
theorem v3_size : v3.size ≤ 1000000 := by
  rw [v3_eq]
  simp [T.size_mk, i3]
theorem leafI (w : World) (n : Int) (hn : (Lit.int .i64 n).wf = true) : Lies w (fun _ => True) (.mk 2 false n ⟨#[]⟩ [] []) #[.int .i64 2, .bool false, .int .i64 n, .string ⟨#[]⟩, .slice none 0 0, .slice none 0 0] :=
  Lies.of_slices (cm := fun _ => #[]) (by decide) hn empty_sp (empty_sVp _ _) ⟨⟨by simp, by simp, fun _ => rfl, fun hp => absurd hp (by simp), by omega⟩, fun i hi => absurd hi (by simp), fun i hi => absurd hi (by simp), fun i hi => absurd hi (by simp)⟩
theorem two_texts (w : World) (x y : ByteArray) (hx : x.size ≤ 140737488355328) (hy : y.size ≤ 140737488355328) : SliceS (w.alloc (.cells #[.string x, .string y] 9)) [x, y] (some ⟨w.heap.size, 0, none⟩) 2 := by
  refine ⟨Nat.le_refl 2, by simp, by simp, fun _ => ⟨_, _, rfl⟩, by omega, fun i hi b off e => ?_, fun i hi => ?_⟩
  · simp only [Option.some.injEq, Addr.mk.injEq, and_true] at e
    obtain ⟨rfl, rfl⟩ := e
    have hi2 : i < 2 := hi
    rw [Nat.zero_add, World.cell?_alloc_new]
    rcases (by omega : i = 0 ∨ i = 1) with rfl | rfl <;> rfl
  · have hi2 : i < 2 := hi
    rcases (by omega : i = 0 ∨ i = 1) with rfl | rfl
    · exact hx
    · exact hy
theorem two_texts_at (w : World) : SliceS (w.alloc (.cells #[.string ⟨#[97]⟩, .string ⟨#[98]⟩] 9)) [sA, sB] (some ⟨w.heap.size, 0, none⟩) 2 := two_texts w sA sB (by decide) (by decide)

set_option maxRecDepth 100000 in
set_option maxHeartbeats 4000000 in
theorem l2awake_any (w : World) : Calls Tryd.prog 4 #[] w fun e w' => e = .returned (.bool true) ∧ Below w.heap.size w w' := by
  have PU : Hid (∀ w1 : World, Calls Tryd.prog 12 #[.agg zeroV, .agg #[.int .i64 2, .bool false, .int .i64 3, .string ⟨#[]⟩, .slice none 0 0, .slice none 0 0], .slice (some ⟨w1.heap.size, 0, none⟩) 2 2] (w1.alloc (.cells #[.string ⟨#[97]⟩, .string ⟨#[98]⟩] 9)) (PutIn (w1.alloc (.cells #[.string ⟨#[97]⟩, .string ⟨#[98]⟩] 9)) v3)) := fun w1 =>
    pPut_any (nil_lies _ (fun _ => True)) (leafI _ 3 (by decide)) (two_texts_at w1) (by decide) (by rw [T.nil_size]; omega) _ (Below.refl _ _)
  have GE : Hid (∀ (w1 : World) (R : Nat → Prop) (cs : Array Value), Lies w1 R v3 cs → Calls Tryd.prog 15 #[.agg cs, .slice (some ⟨w1.heap.size, 0, none⟩) 2 2] (w1.alloc (.cells #[.string ⟨#[97]⟩, .string ⟨#[98]⟩] 9)) (Got (w1.alloc (.cells #[.string ⟨#[97]⟩, .string ⟨#[98]⟩] 9)) (some i3))) := fun w1 R cs h => by
    have := pGet_any (h.later ((Below.refl _ _).alloc (Nat.le_refl _) _)) (two_texts_at w1) _ (Below.refl _ _)
    rw [at_v3] at this
    exact this
  have PR : Hid (∀ (w1 : World) (R : Nat → Prop) (cs : Array Value), Lies w1 R v3 cs → Calls Tryd.prog 16 #[.agg cs, .slice (some ⟨w1.heap.size, 0, none⟩) 2 2] (w1.alloc (.cells #[.string ⟨#[97]⟩, .string ⟨#[98]⟩] 9)) (PutIn (w1.alloc (.cells #[.string ⟨#[97]⟩, .string ⟨#[98]⟩] 9)) (.mk 5 false 0 ⟨#[]⟩ [] []))) := fun w1 R cs h => by
    have := pPrune_any (h.later ((Below.refl _ _).alloc (Nat.le_refl _) _)) (two_texts_at w1) (by decide) v3_size _ (Below.refl _ _)
    rw [prune_v3] at this
    exact this
  go_enter Tryd.func4, Tryd.ntmps4
  go_upto_region 2 with (first
    | (go_at_call 13; refine (tNull_any _).mono ?_; rintro e w1 ⟨rfl, hb1⟩; have HB1 := Lib.hid hb1; clear hb1)
    | (go_at_call 14; refine (tInt_any 3 _).mono ?_; rintro e w2 ⟨rfl, hb2⟩; have HB2 := Lib.hid (bstep HB1.out hb2 HB1.out.size); clear hb2)
    | (go_at_call 12; refine (PU.out w2).mono ?_; rintro e w3 ⟨ds, rfl, hL3, hb3⟩
       obtain ⟨d0, d1, d2, d3, d4, d4l, d4c, d5, d5l, d5c, rfl⟩ := hL3.six
       have HL3 := Lib.hid hL3
       have HB3 := Lib.hid (bstep HB2.out (bunbox hb3 (Nat.le_refl _) (by simp)) HB2.out.size)
       clear hL3 hb3))
  have b3 := Box6.new w3 #[.int .i64 d0, .bool d1, .int .i64 d2, .string d3, .slice d4 d4l d4c, .slice d5 d5l d5c] 36
  have hb4 := HB3.out.alloc HB3.out.size (.cells #[.int .i64 d0, .bool d1, .int .i64 d2, .string d3, .slice d4 d4l d4c, .slice d5 d5l d5c] 36)
  have hl4 := HL3.out.later ((Below.refl w3.heap.size w3).alloc (Nat.le_refl _) (.cells #[.int .i64 d0, .bool d1, .int .i64 d2, .string d3, .slice d4 d4l d4c, .slice d5 d5l d5c] 36))
  have hs4 : w3.heap.size < (w3.alloc (.cells #[.int .i64 d0, .bool d1, .int .i64 d2, .string d3, .slice d4 d4l d4c, .slice d5 d5l d5c] 36)).heap.size := by simp
  generalize w3.alloc (.cells #[.int .i64 d0, .bool d1, .int .i64 d2, .string d3, .slice d4 d4l d4c, .slice d5 d5l d5c] 36) = v4 at b3 hb4 hl4 hs4 ⊢
  have HL4 := Lib.hid hl4
  have HB4 := Lib.hid hb4
  have B3 := Lib.hid b3
  have HS4 := Lib.hid hs4
  obtain ⟨x0, x1, x2, x3, x4, x5⟩ := b3.six
  clear b3 hb4 hl4 hs4
  go_upto_region 3 with (go_at_call 15; refine (GE.out v4 _ _ HL4.out).mono ?_; rintro e w5 ⟨gs, rfl, hG, hb5⟩; obtain ⟨la, lc, ma, mc, rfl⟩ := Lies.head (show Lies w5 _ (.mk 2 false 3 ⟨#[]⟩ [] []) gs from hG); have HB5 := Lib.hid (bunbox hb5 (Nat.le_refl _) (by simp)); clear hG hb5)
  have b6 := Box6.new w5 #[.int .i64 2, .bool false, .int .i64 3, .string ⟨#[]⟩, .slice la ([] : List T).length lc, .slice ma ([] : List (ByteArray × T)).length mc] 36
  have hb6 := HB5.out.alloc HB5.out.size (.cells #[.int .i64 2, .bool false, .int .i64 3, .string ⟨#[]⟩, .slice la ([] : List T).length lc, .slice ma ([] : List (ByteArray × T)).length mc] 36)
  have hs6 : w5.heap.size < (w5.alloc (.cells #[.int .i64 2, .bool false, .int .i64 3, .string ⟨#[]⟩, .slice la ([] : List T).length lc, .slice ma ([] : List (ByteArray × T)).length mc] 36)).heap.size := by simp
  generalize w5.alloc (.cells #[.int .i64 2, .bool false, .int .i64 3, .string ⟨#[]⟩, .slice la ([] : List T).length lc, .slice ma ([] : List (ByteArray × T)).length mc] 36) = v6 at b6 hb6 hs6 ⊢
  have HB6 := Lib.hid hb6
  have B6 := Lib.hid b6
  have HS6 := Lib.hid hs6
  have HL6 := Lib.hid (HL4.out.later hb6)
  clear x0 x1 x2 x3 x4 x5
  obtain ⟨x0, x1, x2, x3, x4, x5⟩ := (B3.out.later hb6 HS4.out).six
  clear b6 hb6 hs6
  go_upto_region 4 with (go_at_call 16; refine (PR.out v6 _ _ HL6.out).mono ?_; rintro e w7 ⟨ps, rfl, hP, hb7⟩; obtain ⟨pa, pc, qa, qc, rfl⟩ := hP.head; have HB7 := Lib.hid (bunbox hb7 (Nat.le_refl _) (by simp)); clear hP hb7)
  have b8 := Box6.new w7 #[.int .i64 5, .bool false, .int .i64 0, .string ⟨#[]⟩, .slice pa ([] : List T).length pc, .slice qa ([] : List (ByteArray × T)).length qc] 36
  have hb8 := HB7.out.alloc HB7.out.size (.cells #[.int .i64 5, .bool false, .int .i64 0, .string ⟨#[]⟩, .slice pa ([] : List T).length pc, .slice qa ([] : List (ByteArray × T)).length qc] 36)
  generalize w7.alloc (.cells #[.int .i64 5, .bool false, .int .i64 0, .string ⟨#[]⟩, .slice pa ([] : List T).length pc, .slice qa ([] : List (ByteArray × T)).length qc] 36) = v8 at b8 hb8 ⊢
  clear x0 x1 x2 x3 x4 x5
  obtain ⟨x0, x1, x2, x3, x4, x5⟩ := (B6.out.later hb8 HS6.out).six
  obtain ⟨y0, y1, y2, y3, y4, y5⟩ := b8.six
  have HB8 := Lib.hid hb8
  clear b8 hb8
  go_wp2_with fail
  go_ret
  exact ⟨rfl, bstep HB4.out (bstep HB6.out HB8.out HB6.out.size) HB4.out.size⟩

end Go.Proofs.YtbbpipjadniafaaDoor
