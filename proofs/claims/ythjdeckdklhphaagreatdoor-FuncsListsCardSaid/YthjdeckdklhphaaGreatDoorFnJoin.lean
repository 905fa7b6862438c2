/-
  Package funcs' joined, and answer of join.
-/
import Derived.Test.YthjdeckdklhphaaGreatDoorFnGlue
import Derived.Test.YthjdeckdklhphaaGreatDoorFnLaidM
import Derived.Test.YthjdeckdklhphaaGreatDoorFnAnsw
import Derived.Test.YthjdeckdklhphaaGreatDoorSpecsEM
import Derived.Test.YthjdeckdklhphaaGreatDoorClone
set_option linter.unusedVariables false
set_option linter.unusedSimpArgs false
namespace Go.Proofs.YthjdeckdklhphaaGreatDoor
open Go.RowKit

set_option maxRecDepth 100000 in
set_option maxHeartbeats 2000000 in
theorem fjoined_any {w0 : World} {R : Nat → Prop} {ts : List T} {ds : Array Value} (h : Lies w0 R (T.listOf ts) ds) (s : ByteArray) (tx : Nat → ByteArray) (hT : ∀ i (h : i < ts.length), SaidOK ts[i] (tx i)) (hlen : (glueL s.data.toList tx ts.length).length ≤ 65536) (hs : s.size ≤ 65536) (w : World) (hw : Below w0.heap.size w0 w) :
    Calls Tryz.prog 25 #[.agg (cS s), .agg ds] w fun e w' => e = .returned (.tuple #[.agg (cS ⟨(glueL s.data.toList tx ts.length).toArray⟩), .int .i64 0]) ∧ Below w.heap.size w w' := by
  obtain ⟨d0, d1, d2, d3, d4, d4l, d4c, d5, d5l, d5c, rfl⟩ := h.six
  have hk : d0 = 4 ∧ d4l = ts.length := by cases h; exact ⟨rfl, rfl⟩
  obtain ⟨rfl, rfl⟩ := hk
  have hS : ∃ cl, SliceV w0 R ts d4 d4c cl := by
    have h2 : Lies w0 R (.mk 4 false 0 ⟨#[]⟩ ts []) #[.int .i64 4, .bool d1, .int .i64 d2, .string d3, .slice d4 ts.length d4c, .slice d5 d5l d5c] := h
    cases h2 with
    | mk k b n s l m la lc ma mc cl cm hk hn hs hl hm rl rm ks il im => exact ⟨cl, hl, rl, il⟩
  obtain ⟨cl, hS⟩ := hS
  have GL := Lib.hid (fun w' (hw' : Below w0.heap.size w0 w') => fglued_any hS s tx hT hlen hs w' hw')
  obtain ⟨gl, hgl⟩ : ∃ gl : ByteArray, gl = ⟨(glueL s.data.toList tx ts.length).toArray⟩ := ⟨_, rfl⟩
  rw [← hgl] at GL ⊢
  clear hgl hT hlen hs hS h
  obtain ⟨dd, hu, hdd⟩ := Tryz.structV
  have DD := Lib.hid hdd
  have HU := Lib.hid hu
  clear hdd hu
  have e2 : ((w.alloc (.cells #[.int .i64 3, .bool false, .int .i64 0, .string s, .slice none 0 0, .slice none 0 0] 28)).alloc (.cells #[.int .i64 4, .bool d1, .int .i64 d2, .string d3, .slice d4 ts.length d4c, .slice d5 d5l d5c] 28)).heap.size = w.heap.size + 1 + 1 := by simp
  have hb3 : Below w.heap.size w (((w.alloc (.cells #[.int .i64 3, .bool false, .int .i64 0, .string s, .slice none 0 0, .slice none 0 0] 28)).alloc (.cells #[.int .i64 4, .bool d1, .int .i64 d2, .string d3, .slice d4 ts.length d4c, .slice d5 d5l d5c] 28)).alloc (.cells zeroV 28)) := (((Below.refl _ _).alloc (Nat.le_refl _) _).alloc (by simp) _).alloc (by simp; omega) _
  have b1 : Box6 (((w.alloc (.cells #[.int .i64 3, .bool false, .int .i64 0, .string s, .slice none 0 0, .slice none 0 0] 28)).alloc (.cells #[.int .i64 4, .bool d1, .int .i64 d2, .string d3, .slice d4 ts.length d4c, .slice d5 d5l d5c] 28)).alloc (.cells zeroV 28)) w.heap.size #[.int .i64 3, .bool false, .int .i64 0, .string s, .slice none 0 0, .slice none 0 0] := (Box6.new w _ 28).later (((Below.refl (w.heap.size + 1) _).alloc (by simp) _).alloc (by simp) _) (by omega)
  have b2 : Box6 (((w.alloc (.cells #[.int .i64 3, .bool false, .int .i64 0, .string s, .slice none 0 0, .slice none 0 0] 28)).alloc (.cells #[.int .i64 4, .bool d1, .int .i64 d2, .string d3, .slice d4 ts.length d4c, .slice d5 d5l d5c] 28)).alloc (.cells zeroV 28)) (w.heap.size + 1) #[.int .i64 4, .bool d1, .int .i64 d2, .string d3, .slice d4 ts.length d4c, .slice d5 d5l d5c] := by
    have := Box6.new (w.alloc (.cells #[.int .i64 3, .bool false, .int .i64 0, .string s, .slice none 0 0, .slice none 0 0] 28)) #[.int .i64 4, .bool d1, .int .i64 d2, .string d3, .slice d4 ts.length d4c, .slice d5 d5l d5c] 28
    rw [World.size_alloc] at this
    exact this.later ((Below.refl (w.heap.size + 1 + 1) _).alloc (by simp) _) (by omega)
  have b3 := Box6.new ((w.alloc (.cells #[.int .i64 3, .bool false, .int .i64 0, .string s, .slice none 0 0, .slice none 0 0] 28)).alloc (.cells #[.int .i64 4, .bool d1, .int .i64 d2, .string d3, .slice d4 ts.length d4c, .slice d5 d5l d5c] 28)) zeroV 28
  have t3 := Thaw.new ((w.alloc (.cells #[.int .i64 3, .bool false, .int .i64 0, .string s, .slice none 0 0, .slice none 0 0] 28)).alloc (.cells #[.int .i64 4, .bool d1, .int .i64 d2, .string d3, .slice d4 ts.length d4c, .slice d5 d5l d5c] 28)) zeroV 28
  rw [e2] at b3 t3
  have es3 : (((w.alloc (.cells #[.int .i64 3, .bool false, .int .i64 0, .string s, .slice none 0 0, .slice none 0 0] 28)).alloc (.cells #[.int .i64 4, .bool d1, .int .i64 d2, .string d3, .slice d4 ts.length d4c, .slice d5 d5l d5c] 28)).alloc (.cells zeroV 28)).heap.size = w.heap.size + 3 := by simp
  have HB3 := Lib.hid hb3
  have B1 := Lib.hid b1
  have B2 := Lib.hid b2
  have BZ := Lib.hid b3
  have TZ := Lib.hid t3
  have ES3 := Lib.hid es3
  clear e2 hb3 b1 b2 b3 t3 es3
  go_enter Tryz.func25, Tryz.ntmps25
  go_upto_region 1 with fail
  generalize (((w.alloc (.cells #[.int .i64 3, .bool false, .int .i64 0, .string s, .slice none 0 0, .slice none 0 0] 28)).alloc (.cells #[.int .i64 4, .bool d1, .int .i64 d2, .string d3, .slice d4 ts.length d4c, .slice d5 d5l d5c] 28)).alloc (.cells zeroV 28)) = v at *
  have hvs := Nat.le_of_eq ES3.out.symm
  have HWV := Lib.hid (bstep hw HB3.out hw.size)
  obtain ⟨p0, p1, p2, p3, p4, p5⟩ := B1.out.six
  obtain ⟨q0, q1, q2, q3, q4, q5⟩ := B2.out.six
  go_upto_region 3 with fail
  refine wp_region_specs4 v 7 (fun i => match i with | 0 => 10 | 1 => 11 | 2 => 12 | 3 => 13 | 4 => 14 | 5 => 15 | 6 => 16 | 7 => 5 | _ => 0) (fun i x wx => match i with | 0 => x = .pointer (some ⟨w.heap.size + 1, 4, none⟩) | 1 => x = .slice d4 ts.length d4c | 2 => x = .agg #[.int .i64 3, .bool false, .int .i64 0, .string s, .slice none 0 0, .slice none 0 0] | 3 => x = .string s | 4 => x = .tuple #[.agg #[.int .i64 3, .bool false, .int .i64 0, .string gl, .slice none 0 0, .slice none 0 0], .int .i64 0] | 5 => x = .agg #[.int .i64 3, .bool false, .int .i64 0, .string gl, .slice none 0 0, .slice none 0 0] | 6 => x = .int .i64 0 | _ => True) (fun i x => match i with | 0 => x = .pointer (some ⟨w.heap.size + 1, 4, none⟩) | 1 => x = .slice d4 ts.length d4c | 2 => x = .agg #[.int .i64 3, .bool false, .int .i64 0, .string s, .slice none 0 0, .slice none 0 0] | 3 => x = .string s | 4 => x = .tuple #[.agg #[.int .i64 3, .bool false, .int .i64 0, .string gl, .slice none 0 0, .slice none 0 0], .int .i64 0] | 5 => x = .agg #[.int .i64 3, .bool false, .int .i64 0, .string gl, .slice none 0 0, .slice none 0 0] | 6 => x = .int .i64 0 | _ => True) (fun wx => ∃ wb, Below v.heap.size v wb ∧ wx = setRow wb (w.heap.size + 1 + 1) 0 [.int .i64 3, .bool false, .int .i64 0, .string gl, .slice none 0 0, .slice none 0 0]) (fun x wx => x = .int .i64 0 ∧ ∃ wb, Below v.heap.size v wb ∧ wx = setRow wb (w.heap.size + 1 + 1) 0 [.int .i64 3, .bool false, .int .i64 0, .string gl, .slice none 0 0, .slice none 0 0]) (by kernel_rfl) (by kernel_rfl) ?s1 (Below.refl _ _) ?s2 ?sv ?s3 ?s4 ?s4b ?s5
  case s1 => intro i hi; rcases (by omega : i = 0 ∨ i = 1 ∨ i = 2 ∨ i = 3 ∨ i = 4 ∨ i = 5 ∨ i = 6 ∨ i = 7) with rfl | rfl | rfl | rfl | rfl | rfl | rfl | rfl <;> exact Nat.lt_of_lt_of_le (by decide : _ < 17) (Nat.le_refl 17)
  case s2 =>
    intro i x w1 w2 hb hU
    match i, hU with
    | 3, h => exact h
    | 4, h => exact h
    | 0, h | 1, h | 2, h | 5, h | 6, h => exact h
    | (n + 7), _ => trivial
  case sv =>
    intro i x w1 hi hU
    match i, hU with
    | 3, h => exact h
    | 4, h => exact h
    | 0, h | 1, h | 2, h | 5, h | 6, h => exact h
    | (n + 7), _ => trivial
  case s3 =>
    intro i o ac wb K' ho hi hA hB hdep hK
    have sv2 : ac.tmps[2]?.getD undef = .pointer (some ⟨w.heap.size, 0, none⟩) := hA.sl (t := 2) (by decide)
    have sv3 : ac.tmps[3]?.getD undef = .pointer (some ⟨w.heap.size + 1, 0, none⟩) := hA.sl (t := 3) (by decide)
    have sv4 : ac.tmps[4]?.getD undef = .pointer (some ⟨w.heap.size + 1 + 1, 0, none⟩) := hA.sl (t := 4) (by decide)
    have p0 := cells_frame hB p0
    have p1 := cells_frame hB p1
    have p2 := cells_frame hB p2
    have p3 := cells_frame hB p3
    have p4 := cells_frame hB p4
    have p5 := cells_frame hB p5
    have q0 := cells_frame hB q0
    have q1 := cells_frame hB q1
    have q2 := cells_frame hB q2
    have q3 := cells_frame hB q3
    have q4 := cells_frame hB q4
    have q5 := cells_frame hB q5
    rcases (by omega : i = 0 ∨ i = 1 ∨ i = 2 ∨ i = 3 ∨ i = 4 ∨ i = 5 ∨ i = 6) with rfl | rfl | rfl | rfl | rfl | rfl | rfl
    · simp at ho
      subst ho
      clear hdep hA
      go_simp
      exact hK _ wb (Below.refl _ _) rfl
    · simp at ho
      subst ho
      have y0 : ac.tmps[10]?.getD undef = .pointer (some ⟨w.heap.size + 1, 4, none⟩) := hdep { on := 0, ground := .data } (by simp) rfl
      clear hdep hA
      go_simp
      exact hK _ wb (Below.refl _ _) rfl
    · simp at ho
      subst ho
      clear hdep hA
      go_simp
      exact hK _ wb (Below.refl _ _) rfl
    · simp at ho
      subst ho
      have y2 : ac.tmps[12]?.getD undef = .agg #[.int .i64 3, .bool false, .int .i64 0, .string s, .slice none 0 0, .slice none 0 0] := hdep { on := 2, ground := .data } (by simp) rfl
      clear hdep hA
      go_simp
      refine (cText_text _ _ _ _ _ _ _ _ _ wb).mono ?_
      rintro e w5 ⟨rfl, hb5⟩
      exact hK _ w5 hb5 rfl
    · simp at ho
      subst ho
      have y1 : ac.tmps[11]?.getD undef = .slice d4 ts.length d4c := hdep { on := 1, ground := .data } (by simp) rfl
      have y3 : ac.tmps[13]?.getD undef = .string s := hdep { on := 3, ground := .data } (by simp) rfl
      clear hdep hA
      go_simp
      refine (GL.out wb (bstep HWV.out hB HWV.out.size)).mono ?_
      rintro e w5 ⟨rfl, hb5⟩
      exact hK _ w5 hb5 rfl
    · simp at ho
      subst ho
      have y4 : ac.tmps[14]?.getD undef = .tuple #[.agg #[.int .i64 3, .bool false, .int .i64 0, .string gl, .slice none 0 0, .slice none 0 0], .int .i64 0] := hdep { on := 4, ground := .data } (by simp) rfl
      clear hdep hA
      go_simp
      exact hK _ wb (Below.refl _ _) rfl
    · simp at ho
      subst ho
      have y4 : ac.tmps[14]?.getD undef = .tuple #[.agg #[.int .i64 3, .bool false, .int .i64 0, .string gl, .slice none 0 0, .slice none 0 0], .int .i64 0] := hdep { on := 4, ground := .data } (by simp) rfl
      clear hdep hA
      go_simp
      exact hK _ wb (Below.refl _ _) rfl
  case s4 =>
    intro o ac wb K' ho hA hB hU hK
    have sv2 : ac.tmps[2]?.getD undef = .pointer (some ⟨w.heap.size, 0, none⟩) := hA.sl (t := 2) (by decide)
    have sv3 : ac.tmps[3]?.getD undef = .pointer (some ⟨w.heap.size + 1, 0, none⟩) := hA.sl (t := 3) (by decide)
    have sv4 : ac.tmps[4]?.getD undef = .pointer (some ⟨w.heap.size + 1 + 1, 0, none⟩) := hA.sl (t := 4) (by decide)
    have p0 := cells_frame hB p0
    have p1 := cells_frame hB p1
    have p2 := cells_frame hB p2
    have p3 := cells_frame hB p3
    have p4 := cells_frame hB p4
    have p5 := cells_frame hB p5
    have q0 := cells_frame hB q0
    have q1 := cells_frame hB q1
    have q2 := cells_frame hB q2
    have q3 := cells_frame hB q3
    have q4 := cells_frame hB q4
    have q5 := cells_frame hB q5
    simp at ho
    subst ho
    have y5 : ac.tmps[15]?.getD undef = .agg #[.int .i64 3, .bool false, .int .i64 0, .string gl, .slice none 0 0, .slice none 0 0] := hU 5 (by omega)
    clear hU hA
    obtain ⟨c0', c1', c2', c3', c4', c5'⟩ := (BZ.out.later hB (by omega)).six
    obtain ⟨f0, f1, f2, f3, f4, f5⟩ := (TZ.out.later hB (by omega)).six
    go_simp
    exact hK _ ⟨wb, hB, rfl⟩
  case s4b =>
    intro o ac wb K' ho hA hVV hF hK
    have sv2 : ac.tmps[2]?.getD undef = .pointer (some ⟨w.heap.size, 0, none⟩) := hA.sl (t := 2) (by decide)
    have sv3 : ac.tmps[3]?.getD undef = .pointer (some ⟨w.heap.size + 1, 0, none⟩) := hA.sl (t := 3) (by decide)
    have sv4 : ac.tmps[4]?.getD undef = .pointer (some ⟨w.heap.size + 1 + 1, 0, none⟩) := hA.sl (t := 4) (by decide)
    simp at ho
    subst ho
    have y6 : ac.tmps[16]?.getD undef = .int .i64 0 := hVV 6 (by omega)
    clear hVV hA
    go_simp
    exact hK _ _ ⟨rfl, hF⟩
  case s5 =>
    intro ac wn hA hVV hF
    have hs : slots 8 (fun i => match i with | 0 => 10 | 1 => 11 | 2 => 12 | 3 => 13 | 4 => 14 | 5 => 15 | 6 => 16 | 7 => 5 | _ => 0) = [10, 11, 12, 13, 14, 15, 16, 5] := by rfl
    rw [hs] at hA
    have hac := hA.act (fun t ht => by
      have h8 : t = 10 ∨ t = 11 ∨ t = 12 ∨ t = 13 ∨ t = 14 ∨ t = 15 ∨ t = 16 ∨ t = 5 := by simpa using ht
      rcases h8 with rfl | rfl | rfl | rfl | rfl | rfl | rfl | rfl <;> exact Nat.lt_of_lt_of_le (by decide : _ < 17) (Nat.le_refl 17))
    rw [List.foldl_cons, List.foldl_cons, List.foldl_cons, List.foldl_cons, List.foldl_cons, List.foldl_cons, List.foldl_cons, List.foldl_cons, List.foldl_nil] at hac
    generalize sl ac 10 = x10 at hac
    generalize sl ac 11 = x11 at hac
    generalize sl ac 12 = x12 at hac
    generalize sl ac 13 = x13 at hac
    generalize sl ac 14 = x14 at hac
    generalize sl ac 15 = x15 at hac
    generalize sl ac 16 = x16 at hac
    generalize sl ac 5 = x5 at hac hF
    clear hA hs hVV
    subst hac
    simp only [Act.put, List.setIfInBounds_toArray, List.set_cons_succ, List.set_cons_zero]
    obtain ⟨rfl, w5, hb5, rfl⟩ := hF
    have HV5 := Lib.hid hb5
    clear hb5
    generalize hW : setRow w5 (w.heap.size + 1 + 1) 0 [.int .i64 3, .bool false, .int .i64 0, .string gl, .slice none 0 0, .slice none 0 0] = W5
    have HW := Lib.hid hW.symm
    clear hW
    go_wp2_with fail
    exact ret_cells_tmp w5 (w.heap.size + 1 + 1) [.int .i64 3, .bool false, .int .i64 0, .string gl, .slice none 0 0, .slice none 0 0] HW.out Tryz.results25 rfl rfl DD.out HU.out Tryz.sizeV ((BZ.out.later HV5.out (by omega)).cells rfl) ⟨rfl, setRow_below _ (by omega) _ _ _ (bstep HB3.out HV5.out HB3.out.size)⟩

set_option maxRecDepth 100000 in
set_option maxHeartbeats 2000000 in
theorem fanswer_join {R : Nat → Prop} {ts : List T} {d0 : Int} {d1 : Bool} {d2 : Int} {d3 : ByteArray} {d4 : Option Addr} {d4l d4c : Nat} {d5 : Option Addr} {d5l d5c : Nat} (w : World) (sb : Nat) (s : ByteArray) (h : TwoV w sb (.int .i64 3) (.bool false) (.int .i64 0) (.string s) (.slice none 0 0) (.slice none 0 0) (.int .i64 d0) (.bool d1) (.int .i64 d2) (.string d3) (.slice d4 d4l d4c) (.slice d5 d5l d5c)) (hl : Lies w R (T.listOf ts) #[.int .i64 d0, .bool d1, .int .i64 d2, .string d3, .slice d4 d4l d4c, .slice d5 d5l d5c]) (tx : Nat → ByteArray) (hT : ∀ i (h : i < ts.length), SaidOK ts[i] (tx i)) (hlen : (glueL s.data.toList tx ts.length).length ≤ 65536) (hs : s.size ≤ 65536) :
    Calls Tryz.prog 16 #[.string ⟨#[106, 111, 105, 110]⟩, .slice (some ⟨sb, 0, none⟩) 2 2] w fun e w' => e = .returned (.tuple #[.agg (cS ⟨(glueL s.data.toList tx ts.length).toArray⟩), .int .i64 0]) ∧ Below w.heap.size w w' := by
  have JO := Lib.hid (fun w' (hw' : Below w.heap.size w w') => fjoined_any hl s tx hT hlen hs w' hw')
  obtain ⟨gl, hgl⟩ : ∃ gl : ByteArray, gl = ⟨(glueL s.data.toList tx ts.length).toArray⟩ := ⟨_, rfl⟩
  rw [← hgl] at JO ⊢
  obtain ⟨dd, hu, hdd⟩ := Tryz.structV
  have DD := Lib.hid hdd
  have HU := Lib.hid hu
  clear hdd hu
  have hb1 := (Below.refl w.heap.size w).alloc (Nat.le_refl _) (.cells zeroV 28)
  have B1 := Lib.hid (Box6.new w zeroV 28)
  have T1 := Lib.hid (Thaw.new w zeroV 28)
  have es : (w.alloc (.cells zeroV 28)).heap.size = w.heap.size + 1 := by simp
  have H1 := Lib.hid (h.later hb1)
  have HB1 := Lib.hid hb1
  have ES := Lib.hid es
  have BZ := B1
  have TZ := T1
  clear h hb1 es hgl hT hlen hs hl
  go_enter Tryz.func16, Tryz.ntmps16
  go_upto_region 1 with fail
  generalize (w.alloc (.cells zeroV 28)) = v at *
  have hvr : w.heap.size < v.heap.size := by rw [ES.out]; omega
  go_upto_region 11 with fail
  obtain ⟨g0, g1, g2, g3, g4, g5, g6, g7, g8, g9, ga, gb⟩ := H1.out
  refine wp_region_specs4 v 9 (fun i => match i with | 0 => 28 | 1 => 29 | 2 => 30 | 3 => 31 | 4 => 32 | 5 => 33 | 6 => 34 | 7 => 35 | 8 => 36 | 9 => 5 | _ => 0) (fun i x wx => match i with | 0 => x = .slice (some ⟨sb, 0, none⟩) 2 2 | 1 => x = .pointer (some ⟨sb, 0, none⟩) | 2 => x = .agg #[.int .i64 3, .bool false, .int .i64 0, .string s, .slice none 0 0, .slice none 0 0] | 3 => x = .slice (some ⟨sb, 0, none⟩) 2 2 | 4 => x = .pointer (some ⟨sb, 6, none⟩) | 5 => x = .agg #[.int .i64 d0, .bool d1, .int .i64 d2, .string d3, .slice d4 d4l d4c, .slice d5 d5l d5c] | 6 => x = .tuple #[.agg #[.int .i64 3, .bool false, .int .i64 0, .string gl, .slice none 0 0, .slice none 0 0], .int .i64 0] | 7 => x = .agg #[.int .i64 3, .bool false, .int .i64 0, .string gl, .slice none 0 0, .slice none 0 0] | 8 => x = .int .i64 0 | _ => True) (fun i x => match i with | 0 => x = .slice (some ⟨sb, 0, none⟩) 2 2 | 1 => x = .pointer (some ⟨sb, 0, none⟩) | 2 => x = .agg #[.int .i64 3, .bool false, .int .i64 0, .string s, .slice none 0 0, .slice none 0 0] | 3 => x = .slice (some ⟨sb, 0, none⟩) 2 2 | 4 => x = .pointer (some ⟨sb, 6, none⟩) | 5 => x = .agg #[.int .i64 d0, .bool d1, .int .i64 d2, .string d3, .slice d4 d4l d4c, .slice d5 d5l d5c] | 6 => x = .tuple #[.agg #[.int .i64 3, .bool false, .int .i64 0, .string gl, .slice none 0 0, .slice none 0 0], .int .i64 0] | 7 => x = .agg #[.int .i64 3, .bool false, .int .i64 0, .string gl, .slice none 0 0, .slice none 0 0] | 8 => x = .int .i64 0 | _ => True) (fun wx => ∃ wb, Below v.heap.size v wb ∧ wx = setRow wb w.heap.size 0 [.int .i64 3, .bool false, .int .i64 0, .string gl, .slice none 0 0, .slice none 0 0]) (fun x wx => x = .int .i64 0 ∧ ∃ wb, Below v.heap.size v wb ∧ wx = setRow wb w.heap.size 0 [.int .i64 3, .bool false, .int .i64 0, .string gl, .slice none 0 0, .slice none 0 0]) (by kernel_rfl) (by kernel_rfl) ?s1 (Below.refl _ _) ?s2 ?sv ?s3 ?s4 ?s4b ?s5
  case s1 => intro i hi; rcases (by omega : i = 0 ∨ i = 1 ∨ i = 2 ∨ i = 3 ∨ i = 4 ∨ i = 5 ∨ i = 6 ∨ i = 7 ∨ i = 8 ∨ i = 9) with rfl | rfl | rfl | rfl | rfl | rfl | rfl | rfl | rfl | rfl <;> exact Nat.lt_of_lt_of_le (by decide : _ < 193) (Nat.le_refl 193)
  case s2 =>
    intro i x w1 w2 hb hU
    match i, hU with
    | 6, h => exact h
    | 0, h | 1, h | 2, h | 3, h | 4, h | 5, h | 7, h | 8, h => exact h
    | (n + 9), _ => trivial
  case sv =>
    intro i x w1 hi hU
    match i, hU with
    | 6, h => exact h
    | 0, h | 1, h | 2, h | 3, h | 4, h | 5, h | 7, h | 8, h => exact h
    | (n + 9), _ => trivial
  case s3 =>
    intro i o ac wb K' ho hi hA hB hdep hK
    have sv0 : ac.tmps[0]?.getD undef = .string ⟨#[106, 111, 105, 110]⟩ := hA.sl (t := 0) (by decide)
    have sv1 : ac.tmps[1]?.getD undef = .slice (some ⟨sb, 0, none⟩) 2 2 := hA.sl (t := 1) (by decide)
    have sv4 : ac.tmps[4]?.getD undef = .pointer (some ⟨w.heap.size, 0, none⟩) := hA.sl (t := 4) (by decide)
    have g0 := cells_frame hB g0
    have g1 := cells_frame hB g1
    have g2 := cells_frame hB g2
    have g3 := cells_frame hB g3
    have g4 := cells_frame hB g4
    have g5 := cells_frame hB g5
    have g6 := cells_frame hB g6
    have g7 := cells_frame hB g7
    have g8 := cells_frame hB g8
    have g9 := cells_frame hB g9
    have ga := cells_frame hB ga
    have gb := cells_frame hB gb
    rcases (by omega : i = 0 ∨ i = 1 ∨ i = 2 ∨ i = 3 ∨ i = 4 ∨ i = 5 ∨ i = 6 ∨ i = 7 ∨ i = 8) with rfl | rfl | rfl | rfl | rfl | rfl | rfl | rfl | rfl
    · simp at ho
      subst ho
      clear hdep hA
      go_simp
      exact hK _ wb (Below.refl _ _) rfl
    · simp at ho
      subst ho
      have y0 : ac.tmps[28]?.getD undef = .slice (some ⟨sb, 0, none⟩) 2 2 := hdep { on := 0, ground := .data } (by simp) rfl
      clear hdep hA
      go_simp
      exact hK _ wb (Below.refl _ _) rfl
    · simp at ho
      subst ho
      have y1 : ac.tmps[29]?.getD undef = .pointer (some ⟨sb, 0, none⟩) := hdep { on := 1, ground := .data } (by simp) rfl
      clear hdep hA
      go_simp
      exact hK _ wb (Below.refl _ _) rfl
    · simp at ho
      subst ho
      clear hdep hA
      go_simp
      exact hK _ wb (Below.refl _ _) rfl
    · simp at ho
      subst ho
      have y3 : ac.tmps[31]?.getD undef = .slice (some ⟨sb, 0, none⟩) 2 2 := hdep { on := 3, ground := .data } (by simp) rfl
      clear hdep hA
      go_simp
      exact hK _ wb (Below.refl _ _) rfl
    · simp at ho
      subst ho
      have y4 : ac.tmps[32]?.getD undef = .pointer (some ⟨sb, 6, none⟩) := hdep { on := 4, ground := .data } (by simp) rfl
      clear hdep hA
      go_simp
      exact hK _ wb (Below.refl _ _) rfl
    · simp at ho
      subst ho
      have y2 : ac.tmps[30]?.getD undef = .agg #[.int .i64 3, .bool false, .int .i64 0, .string s, .slice none 0 0, .slice none 0 0] := hdep { on := 2, ground := .data } (by simp) rfl
      have y5 : ac.tmps[33]?.getD undef = .agg #[.int .i64 d0, .bool d1, .int .i64 d2, .string d3, .slice d4 d4l d4c, .slice d5 d5l d5c] := hdep { on := 5, ground := .data } (by simp) rfl
      clear hdep hA
      go_simp
      refine (JO.out wb (bstep HB1.out hB HB1.out.size)).mono ?_
      rintro e w5 ⟨rfl, hb5⟩
      exact hK _ w5 hb5 rfl
    · simp at ho
      subst ho
      have y6 : ac.tmps[34]?.getD undef = .tuple #[.agg #[.int .i64 3, .bool false, .int .i64 0, .string gl, .slice none 0 0, .slice none 0 0], .int .i64 0] := hdep { on := 6, ground := .data } (by simp) rfl
      clear hdep hA
      go_simp
      exact hK _ wb (Below.refl _ _) rfl
    · simp at ho
      subst ho
      have y6 : ac.tmps[34]?.getD undef = .tuple #[.agg #[.int .i64 3, .bool false, .int .i64 0, .string gl, .slice none 0 0, .slice none 0 0], .int .i64 0] := hdep { on := 6, ground := .data } (by simp) rfl
      clear hdep hA
      go_simp
      exact hK _ wb (Below.refl _ _) rfl
  case s4 =>
    intro o ac wb K' ho hA hB hU hK
    have sv0 : ac.tmps[0]?.getD undef = .string ⟨#[106, 111, 105, 110]⟩ := hA.sl (t := 0) (by decide)
    have sv1 : ac.tmps[1]?.getD undef = .slice (some ⟨sb, 0, none⟩) 2 2 := hA.sl (t := 1) (by decide)
    have sv4 : ac.tmps[4]?.getD undef = .pointer (some ⟨w.heap.size, 0, none⟩) := hA.sl (t := 4) (by decide)
    have g0 := cells_frame hB g0
    have g1 := cells_frame hB g1
    have g2 := cells_frame hB g2
    have g3 := cells_frame hB g3
    have g4 := cells_frame hB g4
    have g5 := cells_frame hB g5
    have g6 := cells_frame hB g6
    have g7 := cells_frame hB g7
    have g8 := cells_frame hB g8
    have g9 := cells_frame hB g9
    have ga := cells_frame hB ga
    have gb := cells_frame hB gb
    simp at ho
    subst ho
    have y7 : ac.tmps[35]?.getD undef = .agg #[.int .i64 3, .bool false, .int .i64 0, .string gl, .slice none 0 0, .slice none 0 0] := hU 7 (by omega)
    clear hU hA
    obtain ⟨c0', c1', c2', c3', c4', c5'⟩ := (BZ.out.later hB (by omega)).six
    obtain ⟨f0, f1, f2, f3, f4, f5⟩ := (TZ.out.later hB (by omega)).six
    go_simp
    exact hK _ ⟨wb, hB, rfl⟩
  case s4b =>
    intro o ac wb K' ho hA hVV hF hK
    have sv0 : ac.tmps[0]?.getD undef = .string ⟨#[106, 111, 105, 110]⟩ := hA.sl (t := 0) (by decide)
    have sv1 : ac.tmps[1]?.getD undef = .slice (some ⟨sb, 0, none⟩) 2 2 := hA.sl (t := 1) (by decide)
    have sv4 : ac.tmps[4]?.getD undef = .pointer (some ⟨w.heap.size, 0, none⟩) := hA.sl (t := 4) (by decide)
    simp at ho
    subst ho
    have y8 : ac.tmps[36]?.getD undef = .int .i64 0 := hVV 8 (by omega)
    clear hVV hA
    go_simp
    exact hK _ _ ⟨rfl, hF⟩
  case s5 =>
    intro ac wn hA hVV hF
    have hs : slots 10 (fun i => match i with | 0 => 28 | 1 => 29 | 2 => 30 | 3 => 31 | 4 => 32 | 5 => 33 | 6 => 34 | 7 => 35 | 8 => 36 | 9 => 5 | _ => 0) = [28, 29, 30, 31, 32, 33, 34, 35, 36, 5] := by rfl
    rw [hs] at hA
    have hac := hA.act (fun t ht => by
      have h8 : t = 28 ∨ t = 29 ∨ t = 30 ∨ t = 31 ∨ t = 32 ∨ t = 33 ∨ t = 34 ∨ t = 35 ∨ t = 36 ∨ t = 5 := by simpa using ht
      rcases h8 with rfl | rfl | rfl | rfl | rfl | rfl | rfl | rfl | rfl | rfl <;> exact Nat.lt_of_lt_of_le (by decide : _ < 193) (Nat.le_refl 193))
    rw [List.foldl_cons, List.foldl_cons, List.foldl_cons, List.foldl_cons, List.foldl_cons, List.foldl_cons, List.foldl_cons, List.foldl_cons, List.foldl_cons, List.foldl_cons, List.foldl_nil] at hac
    generalize sl ac 28 = x28 at hac
    generalize sl ac 29 = x29 at hac
    generalize sl ac 30 = x30 at hac
    generalize sl ac 31 = x31 at hac
    generalize sl ac 32 = x32 at hac
    generalize sl ac 33 = x33 at hac
    generalize sl ac 34 = x34 at hac
    generalize sl ac 35 = x35 at hac
    generalize sl ac 36 = x36 at hac
    generalize sl ac 5 = x5 at hac hF
    clear hA hs hVV
    subst hac
    simp only [Act.put, List.setIfInBounds_toArray, List.set_cons_succ, List.set_cons_zero]
    obtain ⟨rfl, w5, hb5, rfl⟩ := hF
    have HV5 := Lib.hid hb5
    clear hb5
    generalize hW : setRow w5 w.heap.size 0 [.int .i64 3, .bool false, .int .i64 0, .string gl, .slice none 0 0, .slice none 0 0] = W5
    have HW := Lib.hid hW.symm
    clear hW
    go_wp2_with fail
    exact ret_cells_tmp w5 w.heap.size [.int .i64 3, .bool false, .int .i64 0, .string gl, .slice none 0 0, .slice none 0 0] HW.out Tryz.results16 rfl rfl DD.out HU.out Tryz.sizeV ((BZ.out.later HV5.out (by omega)).cells rfl) ⟨rfl, setRow_below _ (by omega) _ _ _ (bstep HB1.out HV5.out HB1.out.size)⟩

end Go.Proofs.YthjdeckdklhphaaGreatDoor
