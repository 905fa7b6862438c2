/-
  TreeMakes, walked.
-/
import Derived.Test.YtgobgjnnhgcedaaMapNil
import Derived.Test.YtgobgjnnhgcedaaMakes
import Derived.Test.YtgobgjnnhgcedaaTCheck
set_option linter.unusedVariables false
set_option linter.unusedSimpArgs false
namespace Go.Proofs.Ytgobgjnnhgcedaa
open Go.RowKit Go.Sort

/-- Six cells of a block. -/
def BoxM (w : World) (b : Nat) (c0 c1 c2 c3 c4 c5 : Value) : Prop :=
  w.cell? ⟨b, 0, none⟩ = some c0 ∧ w.cell? ⟨b, 1, none⟩ = some c1 ∧ w.cell? ⟨b, 2, none⟩ = some c2 ∧ w.cell? ⟨b, 3, none⟩ = some c3 ∧ w.cell? ⟨b, 4, none⟩ = some c4 ∧ w.cell? ⟨b, 5, none⟩ = some c5
theorem BoxM.later {w w' : World} {b : Nat} {c0 c1 c2 c3 c4 c5 : Value} (h : BoxM w b c0 c1 c2 c3 c4 c5) (hb : Below w.heap.size w w') : BoxM w' b c0 c1 c2 c3 c4 c5 :=
  ⟨cells_frame hb h.1, cells_frame hb h.2.1, cells_frame hb h.2.2.1, cells_frame hb h.2.2.2.1, cells_frame hb h.2.2.2.2.1, cells_frame hb h.2.2.2.2.2⟩
theorem BoxM.new (w : World) (c0 c1 c2 c3 c4 c5 : Value) (ty : TypeId) : BoxM (w.alloc (.cells #[c0, c1, c2, c3, c4, c5] ty)) w.heap.size c0 c1 c2 c3 c4 c5 := by
  refine ⟨?_, ?_, ?_, ?_, ?_, ?_⟩ <;> rw [World.cell?_alloc_new] <;> rfl

/-- A value without parts. -/
structure Plain (t : T) : Prop where
  check : t.check = 0
  size : t.size = 1
  depth : t.depth = 1
theorem plain_of (k : Int) (b : Bool) (n : Int) (s : ByteArray) (hk : kindBad k b n s.toList.isEmpty 0 0 = false) (ht : textB s = true) : Plain (.mk k b n s [] []) := by
  have h1 : (T.mk k b n s [] []).size = 1 := by rw [T.size_mk]; rfl
  have h2 : (T.mk k b n s [] []).depth = 1 := by rw [T.depth_mk]; rfl
  refine ⟨?_, h1, h2⟩
  unfold T.check
  rw [h1, h2, if_neg (by decide), if_neg (by decide)]
  exact parts_ok hk ht (fun i hi => absurd hi (by simp)) (fun i hi => absurd hi (by simp))
theorem empty_isEmpty : (⟨#[]⟩ : ByteArray).toList.isEmpty = true := by rw [ByteArray.toList_eq]; rfl
theorem empty_textB : textB ⟨#[]⟩ = true := by unfold textB; simp [ByteArray.size]

/-- Six values without parts, behind each other. -/
theorem six_values {w : World} {b : Bool} {n : Int} {s : ByteArray} {xa xb : Option Addr} {xc xd : Nat} (hn : (Lit.int .i64 n).wf = true) (hs : s.size ≤ 140737488355328) {R : Nat → Prop} (hL : Lies w R (.mk 4 false 0 ⟨#[]⟩ [] []) #[.int .i64 4, .bool false, .int .i64 0, .string ⟨#[]⟩, .slice xa 0 xc, .slice xb 0 xd]) :
    SliceV (w.alloc (.cells #[.int .i64 0, .bool false, .int .i64 0, .string ⟨#[]⟩, .slice none 0 0, .slice none 0 0, .int .i64 1, .bool b, .int .i64 0, .string ⟨#[]⟩, .slice none 0 0, .slice none 0 0, .int .i64 2, .bool false, .int .i64 n, .string ⟨#[]⟩, .slice none 0 0, .slice none 0 0, .int .i64 3, .bool false, .int .i64 0, .string s, .slice none 0 0, .slice none 0 0, .int .i64 4, .bool false, .int .i64 0, .string ⟨#[]⟩, .slice xa 0 xc, .slice xb 0 xd, .int .i64 5, .bool false, .int .i64 0, .string ⟨#[]⟩, .slice none 0 0, .slice none 0 0] 25)) (fun _ => True)
      [.mk 0 false 0 ⟨#[]⟩ [] [], .mk 1 b 0 ⟨#[]⟩ [] [], .mk 2 false n ⟨#[]⟩ [] [], .mk 3 false 0 s [] [], .mk 4 false 0 ⟨#[]⟩ [] [], .mk 5 false 0 ⟨#[]⟩ [] []] (some ⟨w.heap.size, 0, none⟩) 6
      (fun i => match i with | 0 => #[.int .i64 0, .bool false, .int .i64 0, .string ⟨#[]⟩, .slice none 0 0, .slice none 0 0] | 1 => #[.int .i64 1, .bool b, .int .i64 0, .string ⟨#[]⟩, .slice none 0 0, .slice none 0 0] | 2 => #[.int .i64 2, .bool false, .int .i64 n, .string ⟨#[]⟩, .slice none 0 0, .slice none 0 0] | 3 => #[.int .i64 3, .bool false, .int .i64 0, .string s, .slice none 0 0, .slice none 0 0] | 4 => #[.int .i64 4, .bool false, .int .i64 0, .string ⟨#[]⟩, .slice xa 0 xc, .slice xb 0 xd] | _ => #[.int .i64 5, .bool false, .int .i64 0, .string ⟨#[]⟩, .slice none 0 0, .slice none 0 0]) := by
  have leaf : ∀ (W : World) (k : Int) (b : Bool) (m : Int) (s : ByteArray), (Lit.int .i64 k).wf = true → (Lit.int .i64 m).wf = true → s.size ≤ 140737488355328 → Lies W (fun _ => True) (.mk k b m s [] []) #[.int .i64 k, .bool b, .int .i64 m, .string s, .slice none 0 0, .slice none 0 0] :=
    fun W k b m s hk hm hs => Lies.of_slices (l := []) (m := []) hk hm hs (empty_sliceV _ _) (empty_sliceP _ _)
  refine ⟨⟨Nat.le_refl 6, (by decide : 6 * 88 ≤ 140737488355328), by simp, fun _ => ⟨_, _, rfl, trivial⟩, by omega⟩, fun i hi bl ol e => ?_, fun i hi => ?_⟩
  · simp only [Option.some.injEq, Addr.mk.injEq, and_true] at e
    obtain ⟨rfl, rfl⟩ := e
    have hi6 : i < 6 := hi
    intro j hj
    have hj6 : j < 6 := by
      rcases (by omega : i = 0 ∨ i = 1 ∨ i = 2 ∨ i = 3 ∨ i = 4 ∨ i = 5) with rfl | rfl | rfl | rfl | rfl | rfl <;> exact hj
    rw [Nat.zero_add, World.cell?_alloc_new]
    rcases (by omega : i = 0 ∨ i = 1 ∨ i = 2 ∨ i = 3 ∨ i = 4 ∨ i = 5) with rfl | rfl | rfl | rfl | rfl | rfl <;> rcases (by omega : j = 0 ∨ j = 1 ∨ j = 2 ∨ j = 3 ∨ j = 4 ∨ j = 5) with rfl | rfl | rfl | rfl | rfl | rfl <;> rfl
  · have hi6 : i < 6 := hi
    rcases (by omega : i = 0 ∨ i = 1 ∨ i = 2 ∨ i = 3 ∨ i = 4 ∨ i = 5) with rfl | rfl | rfl | rfl | rfl | rfl
    · exact leaf _ _ _ _ _ wf0 wf0 empty_size
    · exact leaf _ _ _ _ _ (by decide) wf0 empty_size
    · exact leaf _ _ _ _ _ (by decide) hn empty_size
    · exact leaf _ _ _ _ _ (by decide) wf0 hs
    · exact (hL.later ((Below.refl _ _).alloc (Nat.le_refl _) _)).weaken fun _ _ => trivial
    · exact leaf _ _ _ _ _ wf5 wf0 empty_size

theorem six_plain (b : Bool) (n : Int) (s : ByteArray) (ht : textB s = true) : ∀ i (hi : i < ([.mk 0 false 0 ⟨#[]⟩ [] [], .mk 1 b 0 ⟨#[]⟩ [] [], .mk 2 false n ⟨#[]⟩ [] [], .mk 3 false 0 s [] [], .mk 4 false 0 ⟨#[]⟩ [] [], .mk 5 false 0 ⟨#[]⟩ [] []] : List T).length), Plain ([.mk 0 false 0 ⟨#[]⟩ [] [], .mk 1 b 0 ⟨#[]⟩ [] [], .mk 2 false n ⟨#[]⟩ [] [], .mk 3 false 0 s [] [], .mk 4 false 0 ⟨#[]⟩ [] [], .mk 5 false 0 ⟨#[]⟩ [] []] : List T)[i] := by
  intro i hi
  have hi6 : i < 6 := hi
  rcases (by omega : i = 0 ∨ i = 1 ∨ i = 2 ∨ i = 3 ∨ i = 4 ∨ i = 5) with rfl | rfl | rfl | rfl | rfl | rfl
  · exact plain_of 0 false 0 ⟨#[]⟩ (by rw [empty_isEmpty]; rfl) empty_textB
  · exact plain_of 1 b 0 ⟨#[]⟩ (by rw [empty_isEmpty]; cases b <;> rfl) empty_textB
  · exact plain_of 2 false n ⟨#[]⟩ (by rw [empty_isEmpty]; simp [kindBad]) empty_textB
  · exact plain_of 3 false 0 s (by simp [kindBad]) ht
  · exact plain_of 4 false 0 ⟨#[]⟩ (by rw [empty_isEmpty]; rfl) empty_textB
  · exact plain_of 5 false 0 ⟨#[]⟩ (by rw [empty_isEmpty]; rfl) empty_textB

set_option maxRecDepth 100000 in
set_option maxHeartbeats 8000000 in
theorem treeMakes_any (b : Bool) (n : Int) (s : ByteArray) (hn : (Lit.int .i64 n).wf = true) (hs : s.size ≤ 140737488355328) (w : World) :
    Calls Try.prog 6 #[.bool b, .int .i64 n, .string s] w fun e w' => e = .returned (.bool true) ∧ Below w.heap.size w w' := by
  go_enter Try.func6, Try.ntmps6
  by_cases h1000 : 1000 < s.size
  · have f1 : decide ((1000 : Int) < (s.size : Int)) = true := by simp; omega
    go_wp2_with fail
    refine (awake_any _).mono ?_
    rintro e w1 ⟨rfl, hb1⟩
    go_wp2_with fail
    go_ret
    exact ⟨rfl, hb1⟩
  have f1 : decide ((1000 : Int) < (s.size : Int)) = false := by simp; omega
  have HT := Lib.hid (rText_any s hs)
  go_wp2_with fail
  refine (HT.out _).mono ?_
  rintro e w1 ⟨rfl, rfl⟩
  cases ht : textB s with
  | false =>
    go_wp2_with fail
    refine (awake_any _).mono ?_
    rintro e w1 ⟨rfl, hb1⟩
    go_wp2_with fail
    go_ret
    exact ⟨rfl, hb1⟩
  | true =>
    have TX := Lib.hid ht
    clear ht HT f1
    go_wp2_with fail
    refine (tNull_any _).mono ?_
    rintro e w1 ⟨rfl, hb1⟩
    go_wp2_with fail
    refine (tBool_any b _).mono ?_
    rintro e w2 ⟨rfl, hb2⟩
    have a2 := bstep hb1 hb2 hb1.size
    go_wp2_with fail
    refine (tInt_any n _).mono ?_
    rintro e w3 ⟨rfl, hb3⟩
    have a3 := bstep a2 hb3 a2.size
    go_wp2_with fail
    refine (tStr_any s _).mono ?_
    rintro e w4 ⟨rfl, hb4⟩
    have a4 := bstep a3 hb4 a3.size
    go_wp2_with fail
    refine (tList_any (empty_sliceV w4 (fun _ => True)) w4 (Below.refl _ _)).mono ?_
    rintro e w5 ⟨dx, rfl, hLx, hb5⟩
    have a5 := bstep a4 hb5 a4.size
    have hLx2 : Lies w5 (fun b => w4.heap.size ≤ b) (.mk 4 false 0 ⟨#[]⟩ [] []) dx := hLx
    have HLX := Lib.hid hLx2
    clear hLx
    cases hLx2 with
    | mk _ _ _ _ _ _ xa xc xb xd xcl xcm hk1 hk2 hk3 hk4 hk5 hk6 hk7 hk8 hk9 hk10 =>
      clear hk1 hk2 hk3 hk4 hk5 hk6 hk7 hk8 hk9 hk10
      go_wp2_with fail
      refine (tMap_nil _).mono ?_
      rintro e w6 ⟨rfl, hb6⟩
      have a6 := bstep a5 hb6 a5.size
      have HS := Lib.hid (six_values (b := b) hn hs (HLX.out.later hb6))
      have PL := Lib.hid (six_plain b n s TX.out)
      have A6 := Lib.hid (bbox a6 (.cells #[.int .i64 0, .bool false, .int .i64 0, .string ⟨#[]⟩, .slice none 0 0, .slice none 0 0, .int .i64 1, .bool b, .int .i64 0, .string ⟨#[]⟩, .slice none 0 0, .slice none 0 0, .int .i64 2, .bool false, .int .i64 n, .string ⟨#[]⟩, .slice none 0 0, .slice none 0 0, .int .i64 3, .bool false, .int .i64 0, .string s, .slice none 0 0, .slice none 0 0, .int .i64 4, .bool false, .int .i64 0, .string ⟨#[]⟩, .slice xa 0 xc, .slice xb 0 xd, .int .i64 5, .bool false, .int .i64 0, .string ⟨#[]⟩, .slice none 0 0, .slice none 0 0] 25) a6.size)
      go_wp2_with fail
      generalize hv6 : w6.alloc (.cells #[.int .i64 0, .bool false, .int .i64 0, .string ⟨#[]⟩, .slice none 0 0, .slice none 0 0, .int .i64 1, .bool b, .int .i64 0, .string ⟨#[]⟩, .slice none 0 0, .slice none 0 0, .int .i64 2, .bool false, .int .i64 n, .string ⟨#[]⟩, .slice none 0 0, .slice none 0 0, .int .i64 3, .bool false, .int .i64 0, .string s, .slice none 0 0, .slice none 0 0, .int .i64 4, .bool false, .int .i64 0, .string ⟨#[]⟩, .slice xa 0 xc, .slice xb 0 xd, .int .i64 5, .bool false, .int .i64 0, .string ⟨#[]⟩, .slice none 0 0, .slice none 0 0] 25) = v6 at *
      generalize hts : ([.mk 0 false 0 ⟨#[]⟩ [] [], .mk 1 b 0 ⟨#[]⟩ [] [], .mk 2 false n ⟨#[]⟩ [] [], .mk 3 false 0 s [] [], .mk 4 false 0 ⟨#[]⟩ [] [], .mk 5 false 0 ⟨#[]⟩ [] []] : List T) = ts at *
      have hlen : ts.length = 6 := by rw [← hts]; rfl
      have HV6 := Lib.hid hv6
      clear a2 a3 a4 a5 a6 hb1 hb2 hb3 hb4 hb5 hb6 hts hv6
      go_loopw [8, 29] (fun _ vi wr => ∃ j : Nat, j ≤ 6 ∧ vi = .int .i64 j ∧ Below v6.heap.size v6 wr) (fun _ vi _ => 6 - (intOf vi).toNat)
      case atStart => exact ⟨0, by omega, rfl, Below.refl _ _⟩
      case round =>
        obtain ⟨j, hj, rfl, hbw⟩ := hrel
        by_cases hjl : j < 6
        · have hj2 : j < ts.length := by omega
          obtain ⟨bl, ol, c0, c1, c2, c3, c4, c4l, c4c, c5, c5l, c5c, ea, hcl, r0, r1, r2, r3, r4, r5⟩ := openL hbw HS.out.hdr HS.out.rows hj2 (HS.out.each j hj2)
          obtain ⟨rfl, rfl⟩ : w6.heap.size = bl ∧ 0 = ol := by simpa using ea
          simp only [Nat.zero_add] at r0 r1 r2 r3 r4 r5
          have hE := HS.out.each j hj2
          have pl := PL.out j hj2
          have q1 := tCheck_any hE
          have q2 := tSize_any hE
          have q3 := tDepth_any hE
          rw [pl.check, hcl] at q1
          rw [pl.size, hcl] at q2
          rw [pl.depth, hcl] at q3
          have Q1 := Lib.hid q1
          have Q2 := Lib.hid q2
          have Q3 := Lib.hid q3
          have ps := Lib.hid pl.size
          clear hcl hE pl q1 q2 q3 ea
          have hv := Lib.hid ((Below.refl wr.heap.size wr).alloc (Nat.le_refl _) (.cells #[.int .i64 c0, .bool c1, .int .i64 c2, .string c3, .slice c4 c4l c4c, .slice c5 c5l c5c] 25))
          have BV : Hid (BoxM (wr.alloc (.cells #[.int .i64 c0, .bool c1, .int .i64 c2, .string c3, .slice c4 c4l c4c, .slice c5 c5l c5c] 25)) wr.heap.size (.int .i64 c0) (.bool c1) (.int .i64 c2) (.string c3) (.slice c4 c4l c4c) (.slice c5 c5l c5c)) := BoxM.new _ _ _ _ _ _ _ _
          have hb := bstep hbw hv.out hbw.size
          go_wp2_with fail
          refine (Q1.out _ hb (by have := ps.out; omega)).mono ?_
          rintro e w7 ⟨rfl, hb7⟩
          obtain ⟨x0, x1, x2, x3, x4, x5⟩ := BV.out.later hb7
          have g7 := bstep hb hb7 hb.size
          clear r0 r1 r2 r3 r4 r5
          go_wp2_with fail
          refine (Q2.out _ g7 (by have := ps.out; omega)).mono ?_
          rintro e w8 ⟨rfl, hb8⟩
          clear x0 x1 x2 x3 x4 x5
          have k8 := bstep hb7 hb8 hb7.size
          obtain ⟨x0, x1, x2, x3, x4, x5⟩ := BV.out.later k8
          have g8 := bstep g7 hb8 g7.size
          go_wp2_with fail
          refine (Q3.out _ g8 (by decide)).mono ?_
          rintro e w9 ⟨rfl, hb9⟩
          have g9 := Lib.hid (bstep g8 hb9 g8.size)
          clear x0 x1 x2 x3 x4 x5 k8 g7 g8 hb hb7 hb8 hb9
          go_wp2_with fail
          go_roundw
          case rel => exact ⟨j + 1, by omega, by go_num, g9.out⟩
          case measure => simp [intOf]; omega
        · obtain rfl : j = 6 := by omega
          have AZ := Lib.hid (bstep A6.out hbw A6.out.size)
          have T0 := fun w => tTruth_any 0 false 0 ⟨#[]⟩ none 0 0 none 0 0 w
          have T1 := fun w => tTruth_any 1 b 0 ⟨#[]⟩ none 0 0 none 0 0 w
          have T2 := fun w => tTruth_any 2 false n ⟨#[]⟩ none 0 0 none 0 0 w
          have T3 := fun w => tTruth_any 3 false 0 s none 0 0 none 0 0 w
          have T4 := fun ya yc yb yd w => tTruth_any 4 false 0 ⟨#[]⟩ ya 0 yc yb 0 yd w
          have T5 := fun w => tTruth_any 5 false 0 ⟨#[]⟩ none 0 0 none 0 0 w
          have E0 : countsB 0 false 0 ⟨#[]⟩ 0 0 = false := rfl
          have E1 : countsB 1 b 0 ⟨#[]⟩ 0 0 = b := rfl
          have E2 : countsB 2 false n ⟨#[]⟩ 0 0 = (n != 0) := rfl
          have E3 : countsB 3 false 0 s 0 0 = !s.toList.isEmpty := rfl
          have E4 : countsB 4 false 0 ⟨#[]⟩ 0 0 = false := rfl
          have E5 : countsB 5 false 0 ⟨#[]⟩ 0 0 = false := rfl
          rw [E0] at T0
          rw [E1] at T1
          rw [E2] at T2
          rw [E3] at T3
          rw [E4] at T4
          rw [E5] at T5
          have U0 := Lib.hid T0
          have U1 := Lib.hid T1
          have U2 := Lib.hid T2
          have U3 := Lib.hid T3
          have U4 := Lib.hid T4
          have U5 := Lib.hid T5
          clear T0 T1 T2 T3 T4 T5 E0 E1 E2 E3 E4 E5
          go_wp2_with fail
          refine (awake_any _).mono ?_
          rintro e y0 ⟨rfl, h0⟩
          have z0 := Lib.hid (bstep AZ.out h0 AZ.out.size)
          go_wp2_with fail
          refine (tNull_any _).mono ?_
          rintro e y1 ⟨rfl, h1⟩
          have z1 := Lib.hid (bstep z0.out h1 z0.out.size)
          go_wp2_with fail
          refine (U0.out _).mono ?_
          rintro e y2 ⟨rfl, h2⟩
          have z2 := Lib.hid (bstep z1.out h2 z1.out.size)
          go_wp2_with fail
          refine (tBool_any b _).mono ?_
          rintro e y3 ⟨rfl, h3⟩
          have z3 := Lib.hid (bstep z2.out h3 z2.out.size)
          go_wp2_with fail
          refine (U1.out _).mono ?_
          rintro e y4 ⟨rfl, h4⟩
          have z4 := Lib.hid (bstep z3.out h4 z3.out.size)
          go_wp2_with fail
          refine (tInt_any n _).mono ?_
          rintro e y5 ⟨rfl, h5⟩
          have z5 := Lib.hid (bstep z4.out h5 z4.out.size)
          go_wp2_with fail
          refine (U2.out _).mono ?_
          rintro e y6 ⟨rfl, h6⟩
          have z6 := Lib.hid (bstep z5.out h6 z5.out.size)
          go_wp2_with fail
          refine (tStr_any s _).mono ?_
          rintro e y7 ⟨rfl, h7⟩
          have z7 := Lib.hid (bstep z6.out h7 z6.out.size)
          go_wp2_with fail
          refine (U3.out _).mono ?_
          rintro e y8 ⟨rfl, h8⟩
          have z8 := Lib.hid (bstep z7.out h8 z7.out.size)
          go_wp2_with fail
          refine (tList_any (empty_sliceV y8 (fun _ => True)) y8 (Below.refl _ _)).mono ?_
          rintro e y9 ⟨dy, rfl, hLy, h9⟩
          have z9 := Lib.hid (bstep z8.out h9 z8.out.size)
          have hLy2 : Lies y9 (fun b => y8.heap.size ≤ b) (.mk 4 false 0 ⟨#[]⟩ [] []) dy := hLy
          clear hLy
          cases hLy2 with
          | mk _ _ _ _ _ _ ya yc yb yd ycl ycm gk1 gk2 gk3 gk4 gk5 gk6 gk7 gk8 gk9 gk10 =>
            clear gk1 gk2 gk3 gk4 gk5 gk6 gk7 gk8 gk9 gk10
            go_wp2_with fail
            refine (U4.out ya yc yb yd _).mono ?_
            rintro e y10 ⟨rfl, h10⟩
            have z10 := Lib.hid (bstep z9.out h10 z9.out.size)
            go_wp2_with fail
            refine (tMap_nil _).mono ?_
            rintro e y11 ⟨rfl, h11⟩
            have z11 := Lib.hid (bstep z10.out h11 z10.out.size)
            go_wp2_with fail
            refine (U5.out _).mono ?_
            rintro e y12 ⟨rfl, h12⟩
            have z12 := Lib.hid (bstep z11.out h12 z11.out.size)
            go_wp2_with fail
            go_ret
            exact ⟨rfl, z12.out⟩

end Go.Proofs.Ytgobgjnnhgcedaa
