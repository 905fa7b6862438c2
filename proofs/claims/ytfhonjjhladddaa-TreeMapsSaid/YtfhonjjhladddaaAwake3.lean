/-
  Layer's example, run.
-/
import Derived.Test.YtfhonjjhladddaaAllM
import Derived.Test.YtfhonjjhladddaaAwake
import Derived.Test.YtfhonjjhladddaaGet
set_option linter.unusedVariables false
set_option linter.unusedSimpArgs false
namespace Go.Proofs.Ytfhonjjhladddaa
open Go.RowKit Go.Sort

def kC : ByteArray := ⟨#[99]⟩
def kD : ByteArray := ⟨#[100]⟩
def mk5 (m : Prs) : T := .mk 5 false 0 ⟨#[]⟩ [] m
def inC : T := mk5 [(kC, T.int 2)]
def inD : T := mk5 [(kD, T.int 3)]
def inCD : T := mk5 [(kC, T.int 2), (kD, T.int 3)]
def aV : T := mk5 [(kA, T.int 1), (kB, inC)]
def bV : T := mk5 [(kA, T.nil), (kB, inD)]
def vV : T := mk5 [(kB, inCD)]

theorem inC_map : T.mkMap [(kC, T.int 2)] = inC := by kernel_rfl
theorem inD_map : T.mkMap [(kD, T.int 3)] = inD := by kernel_rfl
theorem aV_map : T.mkMap [(kA, T.int 1), (kB, inC)] = aV := by kernel_rfl
theorem bV_map : T.mkMap [(kA, T.nil), (kB, inD)] = bV := by kernel_rfl
theorem over_int (t : T) (n : Int) : T.over t (T.int n) = T.int n := over_other t _ _ _ _ _ (by decide)
theorem over_mk5 (t : T) (m : Prs) : T.over t (mk5 m) = mk5 (overR t.pairs m) := over_map t _ _ _ _ _
theorem over_in : T.over inC inD = inCD := by
  unfold inD
  rw [over_mk5, overR_cons, overR_nil]
  dsimp only
  rw [over_int]
  kernel_rfl
theorem cut_b1 : cutB kA aV.pairs = [] := by kernel_rfl
theorem cut_b2 : cutA kA aV.pairs = [(kB, inC)] := by kernel_rfl
theorem cut_b3 : cutB kB [(kB, inC)] = [] := by kernel_rfl
theorem cut_b4 : cutH kB [(kB, inC)] = inC := by kernel_rfl
theorem cut_b5 : cutA kB [(kB, inC)] = [] := by kernel_rfl
theorem over_ab : T.over aV bV = vV := by
  unfold bV
  rw [over_mk5, overR_cons]
  dsimp only
  rw [cut_b1, cut_b2, if_pos (show T.nil.kind = 0 by kernel_rfl), overR_cons]
  dsimp only
  rw [cut_b3, cut_b4, cut_b5, if_neg (show ¬ inD.kind = 0 by decide), overR_nil, over_in]
  rfl
theorem get_v : vV.get kB = some inCD := by kernel_rfl

theorem aV_size : aV.size ≤ 1000000 := by unfold aV inC mk5 T.int; simp [T.size_mk]
theorem bV_size : bV.size ≤ 1000000 := by unfold bV inD mk5 T.int T.nil; simp [T.size_mk]

theorem one_pair {w : World} {R : Nat → Prop} {t : T} {c0 c1 c2 c3 c4 c5 : Value} (k : ByteArray) (hk : k.size ≤ 140737488355328) (h : Lies w R t #[c0, c1, c2, c3, c4, c5]) :
    SliceP (w.alloc (.cells #[.string k, c0, c1, c2, c3, c4, c5] 36)) (fun _ => True) [(k, t)] (some ⟨w.heap.size, 0, none⟩) 1 (fun _ => #[c0, c1, c2, c3, c4, c5]) := by
  refine ⟨⟨by simp, by simp, by simp, fun _ => ⟨_, _, rfl, trivial⟩, by omega⟩, fun i hi bl ol e => ?_, fun i hi => ?_, fun i hi => ?_⟩
  · simp only [Option.some.injEq, Addr.mk.injEq, and_true] at e
    obtain ⟨rfl, rfl⟩ := e
    obtain rfl : i = 0 := by simpa using hi
    intro j hj
    have hj7 : j < 7 := by simpa using hj
    rw [World.cell?_alloc_new]
    rcases (by omega : j = 0 ∨ j = 1 ∨ j = 2 ∨ j = 3 ∨ j = 4 ∨ j = 5 ∨ j = 6) with rfl | rfl | rfl | rfl | rfl | rfl | rfl <;> rfl
  · obtain rfl : i = 0 := by simpa using hi
    exact hk
  · obtain rfl : i = 0 := by simpa using hi
    exact (h.later ((Below.refl _ _).alloc (Nat.le_refl _) _)).weaken fun _ _ => trivial

theorem two_pairs {w : World} {R1 R2 : Nat → Prop} {t u : T} {c0 c1 c2 c3 c4 c5 d0 d1 d2 d3 d4 d5 : Value} (k k2 : ByteArray) (hk : k.size ≤ 140737488355328) (hk2 : k2.size ≤ 140737488355328) (h : Lies w R1 t #[c0, c1, c2, c3, c4, c5]) (h2 : Lies w R2 u #[d0, d1, d2, d3, d4, d5]) :
    SliceP (w.alloc (.cells #[.string k, c0, c1, c2, c3, c4, c5, .string k2, d0, d1, d2, d3, d4, d5] 36)) (fun _ => True) [(k, t), (k2, u)] (some ⟨w.heap.size, 0, none⟩) 2 (fun i => match i with | 0 => #[c0, c1, c2, c3, c4, c5] | _ => #[d0, d1, d2, d3, d4, d5]) := by
  refine ⟨⟨by simp, by simp, by simp, fun _ => ⟨_, _, rfl, trivial⟩, by omega⟩, fun i hi bl ol e => ?_, fun i hi => ?_, fun i hi => ?_⟩
  · simp only [Option.some.injEq, Addr.mk.injEq, and_true] at e
    obtain ⟨rfl, rfl⟩ := e
    have hi2 : i < 2 := hi
    intro j hj
    have hj7 : j < 7 := by
      rcases (by omega : i = 0 ∨ i = 1) with rfl | rfl <;> exact hj
    rw [World.cell?_alloc_new]
    rcases (by omega : i = 0 ∨ i = 1) with rfl | rfl <;> rcases (by omega : j = 0 ∨ j = 1 ∨ j = 2 ∨ j = 3 ∨ j = 4 ∨ j = 5 ∨ j = 6) with rfl | rfl | rfl | rfl | rfl | rfl | rfl <;> rfl
  · have hi2 : i < 2 := hi
    rcases (by omega : i = 0 ∨ i = 1) with rfl | rfl
    · exact hk
    · exact hk2
  · have hi2 : i < 2 := hi
    rcases (by omega : i = 0 ∨ i = 1) with rfl | rfl
    · exact (h.later ((Below.refl _ _).alloc (Nat.le_refl _) _)).weaken fun _ _ => trivial
    · exact (h2.later ((Below.refl _ _).alloc (Nat.le_refl _) _)).weaken fun _ _ => trivial

theorem sizeP : (Try.prog.info? 36).map (·.size) = some 7 := by kernel_rfl
theorem structP : ∃ d, Try.prog.underlying 36 = some d ∧ (match d with | .struct _ | .array _ _ => true | _ => false) = true := by
  have h : ((Try.prog.underlying 36).any fun d => match d with | .struct _ | .array _ _ => true | _ => false) = true := by kernel_rfl
  cases e : Try.prog.underlying 36 with
  | none => rw [e] at h; cases h
  | some d => rw [e] at h; exact ⟨d, rfl, h⟩

set_option maxRecDepth 100000 in
set_option maxHeartbeats 1600000 in
theorem pair_any (s : ByteArray) (k : Int) (b : Bool) (n : Int) (s2 : ByteArray) (la : Option Addr) (ll lc : Nat) (ma : Option Addr) (ml mc : Nat) (w : World) :
    Calls Try.prog 44 #[.string s, .agg #[.int .i64 k, .bool b, .int .i64 n, .string s2, .slice la ll lc, .slice ma ml mc]] w fun e w' => e = .returned (.agg #[.string s, .int .i64 k, .bool b, .int .i64 n, .string s2, .slice la ll lc, .slice ma ml mc]) ∧ Below w.heap.size w w' := by
  go_enter Try.func44, Try.ntmps44
  go_wp2_with fail
  obtain ⟨dd, hu, hdd⟩ := structP
  refine ret_read (w.heap.size + 1) #[.string s, .int .i64 k, .bool b, .int .i64 n, .string s2, .slice la ll lc, .slice ma ml mc] Try.results44 rfl rfl hdd hu sizeP (fun i hi => ?_) ?_
  · have e : (w.alloc (.cells #[.int .i64 k, .bool b, .int .i64 n, .string s2, .slice la ll lc, .slice ma ml mc] 25)).heap.size = w.heap.size + 1 := by simp
    rw [← e, World.cell?_alloc_new]
    exact Array.getElem?_eq_getElem hi
  · exact ⟨rfl, ((Below.refl _ _).alloc (Nat.le_refl _) _).alloc (by simp) _⟩

/-- The cells of a map of a number of pairs. -/
theorem mk5_cells {w : World} {R : Nat → Prop} {m : Prs} {ds : Array Value} (h : Lies w R (mk5 m) ds) : ∃ la lc ma mc, ds = #[.int .i64 5, .bool false, .int .i64 0, .string ⟨#[]⟩, .slice la 0 lc, .slice ma m.length mc] := by
  have h2 : Lies w R (.mk 5 false 0 ⟨#[]⟩ [] m) ds := h
  cases h2
  exact ⟨_, _, _, _, rfl⟩

set_option maxRecDepth 100000 in
set_option maxHeartbeats 4000000 in
theorem awake3_any (w : World) : Calls Try.prog 17 #[] w fun e w' => e = .returned (.bool true) ∧ Below w.heap.size w w' := by
  go_enter Try.func17, Try.ntmps17
  go_wp2_with fail
  refine (tInt_any 1 _).mono ?_
  rintro e w1 ⟨rfl, hb1⟩
  go_wp2_with fail
  refine (pair_any _ _ _ _ _ _ _ _ _ _ _ _).mono ?_
  rintro e w2 ⟨rfl, hb2⟩
  have a2 := bstep hb1 hb2 hb1.size
  go_wp2_with fail
  refine (tInt_any 2 _).mono ?_
  rintro e w3 ⟨rfl, hb3⟩
  have a3 := bstep a2 hb3 a2.size
  go_wp2_with fail
  refine (pair_any _ _ _ _ _ _ _ _ _ _ _ _).mono ?_
  rintro e w4 ⟨rfl, hb4⟩
  have a4 := bstep a3 hb4 a3.size
  go_wp2_with fail
  refine (tMap_few (one_pair kC (by decide) (int_lies w4 (fun _ => True) 2 (by decide))) (by decide) (by decide) _ (Below.refl _ _)).mono ?_
  rintro e w5 ⟨ds, rfl, hL5, hb5⟩
  rw [inC_map] at hL5
  obtain ⟨la5, lc5, ma5, mc5, rfl⟩ := mk5_cells hL5
  have L5 := Lib.hid hL5
  have a5 := bstep a4 (bunbox hb5 (Nat.le_refl _) (by simp)) a4.size
  clear hL5
  go_wp2_with fail
  refine (pair_any _ _ _ _ _ _ _ _ _ _ _ _).mono ?_
  rintro e w6 ⟨rfl, hb6⟩
  have a6 := bstep a5 hb6 a5.size
  go_wp2_with fail
  refine (tMap_few (two_pairs kA kB (by decide) (by decide) (int_lies w6 (fun _ => True) 1 (by decide)) (L5.out.later hb6)) (by simp) (by simp) _ (Below.refl _ _)).mono ?_
  rintro e w7 ⟨ds, rfl, hL7, hb7⟩
  rw [aV_map] at hL7
  obtain ⟨la7, lc7, ma7, mc7, rfl⟩ := mk5_cells hL7
  have L7 := Lib.hid hL7
  have a7 := bstep a6 (bunbox hb7 (Nat.le_refl _) (by simp)) a6.size
  clear hL7 L5 hb5 hb6 hb7
  have B7 := Lib.hid (BoxA.new w7 (.int .i64 5) (.bool false) (.int .i64 0) (.string ⟨#[]⟩) (.slice la7 0 lc7) (.slice ma7 2 mc7) 25)
  have H7 := Lib.hid ((Below.refl w7.heap.size w7).alloc (Nat.le_refl _) (.cells #[.int .i64 5, .bool false, .int .i64 0, .string ⟨#[]⟩, .slice la7 0 lc7, .slice ma7 2 mc7] 25))
  go_wp2_with fail
  refine (tNull_any _).mono ?_
  rintro e w8 ⟨rfl, hb8⟩
  go_wp2_with fail
  refine (pair_any _ _ _ _ _ _ _ _ _ _ _ _).mono ?_
  rintro e w9 ⟨rfl, hb9⟩
  have a9 := bstep hb8 hb9 hb8.size
  go_wp2_with fail
  refine (tInt_any 3 _).mono ?_
  rintro e w10 ⟨rfl, hb10⟩
  have a10 := bstep a9 hb10 a9.size
  go_wp2_with fail
  refine (pair_any _ _ _ _ _ _ _ _ _ _ _ _).mono ?_
  rintro e w11 ⟨rfl, hb11⟩
  have a11 := bstep a10 hb11 a10.size
  go_wp2_with fail
  refine (tMap_few (one_pair kD (by decide) (int_lies w11 (fun _ => True) 3 (by decide))) (by decide) (by decide) _ (Below.refl _ _)).mono ?_
  rintro e w12 ⟨ds, rfl, hL12, hb12⟩
  rw [inD_map] at hL12
  obtain ⟨la12, lc12, ma12, mc12, rfl⟩ := mk5_cells hL12
  have L12 := Lib.hid hL12
  have a12 := bstep a11 (bunbox hb12 (Nat.le_refl _) (by simp)) a11.size
  clear hL12
  go_wp2_with fail
  refine (pair_any _ _ _ _ _ _ _ _ _ _ _ _).mono ?_
  rintro e w13 ⟨rfl, hb13⟩
  have a13 := bstep a12 hb13 a12.size
  go_wp2_with fail
  refine (tMap_few (two_pairs kA kB (by decide) (by decide) (nil_lies w13 (fun _ => True)) (L12.out.later hb13)) (by simp) (by simp) _ (Below.refl _ _)).mono ?_
  rintro e w14 ⟨ds, rfl, hL14, hb14⟩
  rw [bV_map] at hL14
  obtain ⟨la14, lc14, ma14, mc14, rfl⟩ := mk5_cells hL14
  have L14 := Lib.hid hL14
  have a14 := bstep a13 (bunbox hb14 (Nat.le_refl _) (by simp)) a13.size
  have H14 := Lib.hid ((Below.refl w14.heap.size w14).alloc (Nat.le_refl _) (.cells #[.int .i64 5, .bool false, .int .i64 0, .string ⟨#[]⟩, .slice la14 0 lc14, .slice ma14 2 mc14] 25))
  have C14 := Lib.hid (bstep a14 H14.out a14.size)
  have D14 := Lib.hid (bstep a7 (bstep H7.out C14.out (by simp)) a7.size)
  obtain ⟨x0, x1, x2, x3, x4, x5⟩ := B7.out.later C14.out
  have L7b := Lib.hid (L7.out.later (bstep H7.out C14.out (by simp)))
  clear hL14 L12 hb8 hb9 hb10 hb11 hb12 hb13 hb14 a9 a10 a11 a12 a13 a14 a7 a6 a5 a4 a3 a2 hb1 hb2 hb3 hb4
  go_wp2_with fail
  refine (over_any L7b.out (L14.out.later H14.out) _ (Below.refl _ _) aV_size bV_size).mono ?_
  rintro e w15 ⟨ds, rfl, hL15, hb15⟩
  rw [over_ab] at hL15
  obtain ⟨la15, lc15, ma15, mc15, rfl⟩ := mk5_cells hL15
  have L15 := Lib.hid hL15
  have a15 := bstep D14.out hb15 D14.out.size
  have GB := Lib.hid (tGet_any hL15 kB)
  rw [get_v] at GB
  have H15 := Lib.hid ((Below.refl w15.heap.size w15).alloc (Nat.le_refl _) (.cells #[.int .i64 5, .bool false, .int .i64 0, .string ⟨#[]⟩, .slice la15 0 lc15, .slice ma15 1 mc15] 25))
  clear hL15 x0 x1 x2 x3 x4 x5
  go_wp2_with fail
  refine (GB.out _ H15.out).mono ?_
  rintro e w16 ⟨ds, rfl, hL16, hb16⟩
  obtain ⟨la16, lc16, ma16, mc16, rfl⟩ := mk5_cells (show Lies w16 _ (mk5 [(kC, T.int 2), (kD, T.int 3)]) ds from hL16)
  have a16 := bstep a15 (bunbox hb16 (Nat.le_refl _) (by simp)) a15.size
  have x5 : w16.cell? ⟨w15.heap.size, 5, none⟩ = some (.slice ma15 1 mc15) := box_cell hb16 (by simp) rfl
  have z5 := cells_frame ((Below.refl w16.heap.size w16).alloc (Nat.le_refl _) (.cells #[.int .i64 5, .bool false, .int .i64 0, .string ⟨#[]⟩, .slice la16 0 lc16, .slice ma16 2 mc16] 25)) x5
  go_wp2_with fail
  go_ret
  exact ⟨rfl, bbox a16 _ a16.size⟩

end Go.Proofs.Ytfhonjjhladddaa
