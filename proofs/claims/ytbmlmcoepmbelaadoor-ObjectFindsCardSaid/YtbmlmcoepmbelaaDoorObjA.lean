/-
  The example of package object's document, run.
-/
import Derived.Test.YtbmlmcoepmbelaaDoorObjO
set_option linter.unusedVariables false
set_option linter.unusedSimpArgs false
namespace Go.Proofs.YtbmlmcoepmbelaaDoor
open Go.RowKit Go.Sort

theorem leafO (w : World) (k : Int) (b : Bool) (n : Int) (s : ByteArray) (hk : (Lit.int .i64 k).wf = true) (hn : (Lit.int .i64 n).wf = true) (hs : s.size ≤ 140737488355328) : Lies w (fun _ => True) (.mk k b n s [] []) #[.int .i64 k, .bool b, .int .i64 n, .string s, .slice none 0 0, .slice none 0 0] :=
  Lies.of_slices hk hn hs (empty_sliceV w _) (empty_sliceP w _)
theorem one_pairO {w : World} {R : Nat → Prop} {t : T} {c0 c1 c2 c3 c4 c5 : Value} (k : ByteArray) (hk : k.size ≤ 140737488355328) (h : Lies w R t #[c0, c1, c2, c3, c4, c5]) :
    SliceP (w.alloc (.cells #[.string k, c0, c1, c2, c3, c4, c5] 54)) (fun _ => True) [(k, t)] (some ⟨w.heap.size, 0, none⟩) 1 (fun _ => #[c0, c1, c2, c3, c4, c5]) := by
  refine ⟨⟨by simp, by simp, by simp, fun _ => ⟨_, _, rfl, trivial⟩, by omega⟩, fun i hi bl ol e => ?_, fun i hi => ?_, fun i hi => ?_⟩
  · simp only [Option.some.injEq, Addr.mk.injEq, and_true] at e
    obtain ⟨rfl, rfl⟩ := e
    obtain rfl : i = 0 := by simpa using hi
    intro j hj
    have hj7 : j < 7 := by simpa using hj
    rw [World.cell?_alloc_new]
    rcases (by omega : j = 0 ∨ j = 1 ∨ j = 2 ∨ j = 3 ∨ j = 4 ∨ j = 5 ∨ j = 6) with rfl | rfl | rfl | rfl | rfl | rfl | rfl <;> rfl
  · obtain rfl : i = 0 := by simpa using hi
    exact hk
  · obtain rfl : i = 0 := by simpa using hi
    exact (h.later ((Below.refl _ _).alloc (Nat.le_refl _) _)).weaken fun _ _ => trivial
theorem two_pairsO {w : World} {R1 R2 : Nat → Prop} {t u : T} {c0 c1 c2 c3 c4 c5 d0 d1 d2 d3 d4 d5 : Value} (k k2 : ByteArray) (hk : k.size ≤ 140737488355328) (hk2 : k2.size ≤ 140737488355328) (h : Lies w R1 t #[c0, c1, c2, c3, c4, c5]) (h2 : Lies w R2 u #[d0, d1, d2, d3, d4, d5]) :
    SliceP (w.alloc (.cells #[.string k, c0, c1, c2, c3, c4, c5, .string k2, d0, d1, d2, d3, d4, d5] 54)) (fun _ => True) [(k, t), (k2, u)] (some ⟨w.heap.size, 0, none⟩) 2 (fun i => match i with | 0 => #[c0, c1, c2, c3, c4, c5] | _ => #[d0, d1, d2, d3, d4, d5]) := by
  refine ⟨⟨by simp, by simp, by simp, fun _ => ⟨_, _, rfl, trivial⟩, by omega⟩, fun i hi bl ol e => ?_, fun i hi => ?_, fun i hi => ?_⟩
  · simp only [Option.some.injEq, Addr.mk.injEq, and_true] at e
    obtain ⟨rfl, rfl⟩ := e
    have hi2 : i < 2 := hi
    intro j hj
    have hj7 : j < 7 := by
      rcases (by omega : i = 0 ∨ i = 1) with rfl | rfl <;> exact hj
    rw [World.cell?_alloc_new]
    rcases (by omega : i = 0 ∨ i = 1) with rfl | rfl <;> rcases (by omega : j = 0 ∨ j = 1 ∨ j = 2 ∨ j = 3 ∨ j = 4 ∨ j = 5 ∨ j = 6) with rfl | rfl | rfl | rfl | rfl | rfl | rfl <;> rfl
  · have hi2 : i < 2 := hi
    rcases (by omega : i = 0 ∨ i = 1) with rfl | rfl
    · exact hk
    · exact hk2
  · have hi2 : i < 2 := hi
    rcases (by omega : i = 0 ∨ i = 1) with rfl | rfl
    · exact (h.later ((Below.refl _ _).alloc (Nat.le_refl _) _)).weaken fun _ _ => trivial
    · exact (h2.later ((Below.refl _ _).alloc (Nat.le_refl _) _)).weaken fun _ _ => trivial

def sService : ByteArray := ⟨#[83, 101, 114, 118, 105, 99, 101]⟩
def sDeploy : ByteArray := ⟨#[68, 101, 112, 108, 111, 121, 109, 101, 110, 116]⟩
def exS : T := .mk 3 false 0 sService [] []
def exA : T := .mk 3 false 0 ⟨#[97]⟩ [] []
def exM : T := .mk 5 false 0 ⟨#[]⟩ [] [(kName, exA)]
def exO : T := .mk 5 false 0 ⟨#[]⟩ [] [(kKind, exS), (kMeta, exM)]
theorem exS_parts : exS.parts = 0 := by rw [exS, T.parts_mk]; kernel_rfl
theorem exA_parts : exA.parts = 0 := by rw [exA, T.parts_mk]; kernel_rfl
theorem exM_parts : exM.parts = 0 := by
  rw [exM, T.parts_mk]
  simp only [List.map_cons, List.map_nil, exA_parts]
  kernel_rfl
theorem exO_parts : exO.parts = 0 := by
  rw [exO, T.parts_mk]
  simp only [List.map_cons, List.map_nil, exM_parts, exS_parts]
  kernel_rfl
theorem exO_depth : exO.depth = 3 := by simp [exO, exM, exS, exA, T.depth_mk]
theorem exO_size : exO.size = 4 := by simp [exO, exM, exS, exA, T.size_mk]
theorem exO_check : exO.check = 0 := by
  rw [T.check, exO_depth, exO_size, exO_parts]
  rfl
theorem exO_meta : metaO exO = exM := by kernel_rfl
theorem exO_kind : kindO exO = sService := by kernel_rfl
theorem exO_space : spaceO exO = kDefault := by rw [spaceO, exO_meta]; kernel_rfl
theorem exO_name : nameO exO = ⟨#[97]⟩ := by rw [nameO, exO_meta]; kernel_rfl
theorem exO_bad : badO exO = false := by rw [badO, exO_kind, exO_space, exO_name]; kernel_rfl
theorem exO_of : ofO exO = ⟨sService, kDefault, ⟨#[97]⟩, exO, 0⟩ := by
  rw [ofO, if_neg (by rw [exO_check]; simp), if_neg (by rw [exO_bad]; simp), exO_kind, exO_space, exO_name]
theorem exO_key : (keyO sService kDefault ⟨#[97]⟩) = ⟨#[83, 101, 114, 118, 105, 99, 101, 47, 100, 101, 102, 97, 117, 108, 116, 47, 97]⟩ := by kernel_rfl
theorem exO_cmp : cmpO sService kDefault ⟨#[97]⟩ sDeploy ⟨#[]⟩ ⟨#[]⟩ = -1 := by
  have h1 : rankO sService = 6 := by kernel_rfl
  have h2 : rankO sDeploy = 7 := by kernel_rfl
  have h3 : cmpI ((6 : Nat) : Int) ((7 : Nat) : Int) = -1 := by decide
  rw [cmpO, h1, h2, h3]
  rfl

set_option maxRecDepth 100000 in
set_option maxHeartbeats 4000000 in
theorem l12awake_any (w : World) (hw : RankTab w) : Calls Tryd.prog 7 #[] w fun e w' => e = .returned (.bool true) ∧ Below w.heap.size w w' := by
  have hlt := hw.lt
  have h1 := one_pairO kName (by decide) (leafO w 3 false 0 ⟨#[97]⟩ (by decide) (by decide) (by decide))
  have hb1 := (Below.refl w.heap.size w).alloc (Nat.le_refl _) (.cells #[.string kName, .int .i64 3, .bool false, .int .i64 0, .string ⟨#[97]⟩, .slice none 0 0, .slice none 0 0] 54)
  have e1 : (w.alloc (.cells #[.string kName, .int .i64 3, .bool false, .int .i64 0, .string ⟨#[97]⟩, .slice none 0 0, .slice none 0 0] 54)).heap.size = w.heap.size + 1 := by simp
  have hb2 := hb1.alloc hb1.size (.cells #[.string kKind, .int .i64 3, .bool false, .int .i64 0, .string sService, .slice none 0 0, .slice none 0 0, .string kMeta, .int .i64 5, .bool false, .int .i64 0, .string ⟨#[]⟩, .slice none 0 0, .slice (some ⟨w.heap.size, 0, none⟩) 1 1] 54)
  have e2 : ((w.alloc (.cells #[.string kName, .int .i64 3, .bool false, .int .i64 0, .string ⟨#[97]⟩, .slice none 0 0, .slice none 0 0] 54)).alloc (.cells #[.string kKind, .int .i64 3, .bool false, .int .i64 0, .string sService, .slice none 0 0, .slice none 0 0, .string kMeta, .int .i64 5, .bool false, .int .i64 0, .string ⟨#[]⟩, .slice none 0 0, .slice (some ⟨w.heap.size, 0, none⟩) 1 1] 54)).heap.size = w.heap.size + 2 := by simp
  have hb3 := hb2.alloc hb2.size (.cells #[.int .i64 5, .bool false, .int .i64 0, .string ⟨#[]⟩, .slice none 0 0, .slice (some ⟨w.heap.size + 1, 0, none⟩) 2 2] 25)
  have e3 : (((w.alloc (.cells #[.string kName, .int .i64 3, .bool false, .int .i64 0, .string ⟨#[97]⟩, .slice none 0 0, .slice none 0 0] 54)).alloc (.cells #[.string kKind, .int .i64 3, .bool false, .int .i64 0, .string sService, .slice none 0 0, .slice none 0 0, .string kMeta, .int .i64 5, .bool false, .int .i64 0, .string ⟨#[]⟩, .slice none 0 0, .slice (some ⟨w.heap.size, 0, none⟩) 1 1] 54)).alloc (.cells #[.int .i64 5, .bool false, .int .i64 0, .string ⟨#[]⟩, .slice none 0 0, .slice (some ⟨w.heap.size + 1, 0, none⟩) 2 2] 25)).heap.size = w.heap.size + 3 := by simp
  have l1 : Lies (w.alloc (.cells #[.string kName, .int .i64 3, .bool false, .int .i64 0, .string ⟨#[97]⟩, .slice none 0 0, .slice none 0 0] 54)) (fun _ => True) exM #[.int .i64 5, .bool false, .int .i64 0, .string ⟨#[]⟩, .slice none 0 0, .slice (some ⟨w.heap.size, 0, none⟩) 1 1] := Lies.of_slices (m := [(kName, exA)]) (by decide) (by decide) (by decide) (empty_sliceV _ _) h1
  have h2 := two_pairsO kKind kMeta (by decide) (by decide) (leafO (w.alloc (.cells #[.string kName, .int .i64 3, .bool false, .int .i64 0, .string ⟨#[97]⟩, .slice none 0 0, .slice none 0 0] 54)) 3 false 0 sService (by decide) (by decide) (by decide)) l1
  rw [e1] at h2
  have l2 : Lies ((w.alloc (.cells #[.string kName, .int .i64 3, .bool false, .int .i64 0, .string ⟨#[97]⟩, .slice none 0 0, .slice none 0 0] 54)).alloc (.cells #[.string kKind, .int .i64 3, .bool false, .int .i64 0, .string sService, .slice none 0 0, .slice none 0 0, .string kMeta, .int .i64 5, .bool false, .int .i64 0, .string ⟨#[]⟩, .slice none 0 0, .slice (some ⟨w.heap.size, 0, none⟩) 1 1] 54)) (fun _ => True) exO #[.int .i64 5, .bool false, .int .i64 0, .string ⟨#[]⟩, .slice none 0 0, .slice (some ⟨w.heap.size + 1, 0, none⟩) 2 2] := Lies.of_slices (m := [(kKind, exS), (kMeta, exM)]) (by decide) (by decide) (by decide) (empty_sliceV _ _) h2
  have l3 := l2.later ((Below.refl ((w.alloc (.cells #[.string kName, .int .i64 3, .bool false, .int .i64 0, .string ⟨#[97]⟩, .slice none 0 0, .slice none 0 0] 54)).alloc (.cells #[.string kKind, .int .i64 3, .bool false, .int .i64 0, .string sService, .slice none 0 0, .slice none 0 0, .string kMeta, .int .i64 5, .bool false, .int .i64 0, .string ⟨#[]⟩, .slice none 0 0, .slice (some ⟨w.heap.size, 0, none⟩) 1 1] 54)).heap.size ((w.alloc (.cells #[.string kName, .int .i64 3, .bool false, .int .i64 0, .string ⟨#[97]⟩, .slice none 0 0, .slice none 0 0] 54)).alloc (.cells #[.string kKind, .int .i64 3, .bool false, .int .i64 0, .string sService, .slice none 0 0, .slice none 0 0, .string kMeta, .int .i64 5, .bool false, .int .i64 0, .string ⟨#[]⟩, .slice none 0 0, .slice (some ⟨w.heap.size, 0, none⟩) 1 1] 54))).alloc (Nat.le_refl _) (.cells #[.int .i64 5, .bool false, .int .i64 0, .string ⟨#[]⟩, .slice none 0 0, .slice (some ⟨w.heap.size + 1, 0, none⟩) 2 2] 25))
  have b3 := Box6.new ((w.alloc (.cells #[.string kName, .int .i64 3, .bool false, .int .i64 0, .string ⟨#[97]⟩, .slice none 0 0, .slice none 0 0] 54)).alloc (.cells #[.string kKind, .int .i64 3, .bool false, .int .i64 0, .string sService, .slice none 0 0, .slice none 0 0, .string kMeta, .int .i64 5, .bool false, .int .i64 0, .string ⟨#[]⟩, .slice none 0 0, .slice (some ⟨w.heap.size, 0, none⟩) 1 1] 54)) #[.int .i64 5, .bool false, .int .i64 0, .string ⟨#[]⟩, .slice none 0 0, .slice (some ⟨w.heap.size + 1, 0, none⟩) 2 2] 25
  rw [e2] at b3
  have HB3 := Lib.hid hb3
  have L3 := Lib.hid l3
  have E3 := Lib.hid e3
  have RT := Lib.hid (hw.later hb3 hlt)
  obtain ⟨x0, x1, x2, x3, x4, x5⟩ := b3.six
  clear h1 hb1 e1 hb2 e2 hb3 e3 l1 h2 l2 l3 b3 hw
  go_enter Tryd.func7, Tryd.ntmps7
  go_upto_region 2 with fail
  change Code.wp _ _ _ _ (((w.alloc (.cells #[.string kName, .int .i64 3, .bool false, .int .i64 0, .string ⟨#[97]⟩, .slice none 0 0, .slice none 0 0] 54)).alloc (.cells #[.string kKind, .int .i64 3, .bool false, .int .i64 0, .string sService, .slice none 0 0, .slice none 0 0, .string kMeta, .int .i64 5, .bool false, .int .i64 0, .string ⟨#[]⟩, .slice none 0 0, .slice (some ⟨w.heap.size, 0, none⟩) 1 1] 54)).alloc (.cells #[.int .i64 5, .bool false, .int .i64 0, .string ⟨#[]⟩, .slice none 0 0, .slice (some ⟨w.heap.size + 1, 0, none⟩) 2 2] 25))
  generalize (((w.alloc (.cells #[.string kName, .int .i64 3, .bool false, .int .i64 0, .string ⟨#[97]⟩, .slice none 0 0, .slice none 0 0] 54)).alloc (.cells #[.string kKind, .int .i64 3, .bool false, .int .i64 0, .string sService, .slice none 0 0, .slice none 0 0, .string kMeta, .int .i64 5, .bool false, .int .i64 0, .string ⟨#[]⟩, .slice none 0 0, .slice (some ⟨w.heap.size, 0, none⟩) 1 1] 54)).alloc (.cells #[.int .i64 5, .bool false, .int .i64 0, .string ⟨#[]⟩, .slice none 0 0, .slice (some ⟨w.heap.size + 1, 0, none⟩) 2 2] 25)) = v at *
  have OF := Lib.hid (oOf_any L3.out (by rw [exO_size]; omega) v (Below.refl _ _))
  rw [exO_of] at OF
  go_upto_region 3 with (go_at_call 8; refine OF.out.mono ?_; rintro e w4 ⟨q0, q1, q2, q3, q4, q4l, q4c, q5, q5l, q5c, rfl, hl, hb4⟩; have HB4 := Lib.hid hb4; clear hb4 hl)
  have hb5 := HB4.out.alloc HB4.out.size (.cells #[.string sService, .string kDefault, .string ⟨#[97]⟩, .int .i64 q0, .bool q1, .int .i64 q2, .string q3, .slice q4 q4l q4c, .slice q5 q5l q5c] 31)
  have b5 := Box9.new w4 #[.string sService, .string kDefault, .string ⟨#[97]⟩, .int .i64 q0, .bool q1, .int .i64 q2, .string q3, .slice q4 q4l q4c, .slice q5 q5l q5c] 31
  have hlv : 0 < v.heap.size := Nat.lt_of_lt_of_le hlt HB3.out.size
  have RT5 := Lib.hid (RT.out.later hb5 hlv)
  have HB5 := Lib.hid (bstep HB3.out hb5 HB3.out.size)
  obtain ⟨y0, y1, y2, y3, y4, y5, y6, y7, y8⟩ := b5.nine
  clear x0 x1 x2 x3 x4 x5 hb5 b5
  change Code.wp _ _ _ _ (w4.alloc (.cells #[.string sService, .string kDefault, .string ⟨#[97]⟩, .int .i64 q0, .bool q1, .int .i64 q2, .string q3, .slice q4 q4l q4c, .slice q5 q5l q5c] 31))
  generalize w4.alloc (.cells #[.string sService, .string kDefault, .string ⟨#[97]⟩, .int .i64 q0, .bool q1, .int .i64 q2, .string q3, .slice q4 q4l q4c, .slice q5 q5l q5c] 31) = v5 at *
  have KY := Lib.hid (oKey_any sService kDefault ⟨#[97]⟩ (by decide) (by decide) (by decide))
  rw [exO_key] at KY
  have CM := Lib.hid (fun w' h => oCompare_any sService kDefault ⟨#[97]⟩ sDeploy ⟨#[]⟩ ⟨#[]⟩ w' h)
  rw [exO_cmp] at CM
  go_wp2_with (first
    | (go_at_call 12; refine (KY.out _).mono ?_; rintro e w6 ⟨rfl, hb6⟩; have HB6 := Lib.hid hb6; have z0 := cells_frame hb6 y0; have z1 := cells_frame hb6 y1; have z2 := cells_frame hb6 y2; clear y0 y1 y2 y3 y4 y5 y6 y7 y8 hb6)
    | (go_at_call 18; refine (CM.out _ (RT5.out.later HB6.out RT5.out.lt)).mono ?_; rintro e w7 ⟨rfl, hb7⟩; have HB7 := Lib.hid hb7; clear hb7))
  go_ret
  exact ⟨rfl, bstep (bstep HB5.out HB6.out HB5.out.size) HB7.out (bstep HB5.out HB6.out HB5.out.size).size⟩

end Go.Proofs.YtbmlmcoepmbelaaDoor
