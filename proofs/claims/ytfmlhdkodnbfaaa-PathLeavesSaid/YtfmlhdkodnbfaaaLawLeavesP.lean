/-
  PathLeaves: the law's contract.
-/
import Derived.Test.YtfmlhdkodnbfaaaLawDropsP
import Derived.Test.YtfmlhdkodnbfaaaRLvs
import Derived.Test.YtfmlhdkodnbfaaaLeafZ
import Derived.Test.YtfmlhdkodnbfaaaTwoL
import Derived.Test.YtfmlhdkodnbfaaaSpecsG
set_option linter.unusedVariables false
set_option linter.unusedSimpArgs false
namespace Go.Proofs.Ytfmlhdkodnbfaaa
open Go.RowKit Go.Sort

theorem l2texts_any {w0 : World} {xs : List ByteArray} {a c : Option Addr} {ac cc : Nat} (h1 : SliceS w0 xs a ac) (h2 : SliceS w0 xs c cc) (w : World) (hw : Below w0.heap.size w0 w) :
    Calls Try.prog 10 #[.slice a xs.length ac, .slice c xs.length cc] w fun e w' => e = .returned (.bool true) ∧ Below w.heap.size w w' := by
  have H1 := Lib.hid h1
  have H2 := Lib.hid h2
  have l1 := h1.le
  have l2 := h2.le
  have b1 := h1.big
  clear h1 h2
  have hf : ((xs.length : Int) != (xs.length : Int)) = false := by simp
  go_enter Try.func10, Try.ntmps10
  go_wp2_with fail
  go_loopw [13] (fun vi wr => ∃ j : Nat, j ≤ xs.length ∧ vi = .int .i64 j ∧ Below w.heap.size w wr) (fun vi _ => xs.length - (intOf vi).toNat)
  case atStart => exact ⟨0, by omega, rfl, Below.refl _ _⟩
  case round =>
    obtain ⟨j, hj, rfl, hbw⟩ := hrel
    by_cases hjl : j < xs.length
    · have hbr := bstep hw hbw hw.size
      obtain ⟨s1, o1, rfl, k1⟩ := H1.out.at hbr hjl
      obtain ⟨s2, o2, rfl, k2⟩ := H2.out.at hbr hjl
      have hx : (xs[j].toList == xs[j].toList) = true := by simp
      go_upto_region 6 with fail
      go_quiet (fail)
      go_wp2_with fail
      go_roundw
      case rel => exact ⟨j + 1, by omega, by go_num, bdrewN hbw _⟩
      case measure => simp [intOf]; omega
    · obtain rfl : j = xs.length := by omega
      go_wp2_with fail
      go_ret
      exact ⟨rfl, hbw⟩
theorem RLvIn.slice {w0 w w' : World} {ls : Lvs} {v : Value} {K : List LQ} (h : OwnK (fun b => b < w0.heap.size) w.heap.size w' v K) (hs : K.map LQ.strip = ls) : ∃ a c, v = .slice a ls.length c ∧ SliceK w' K a c := by
  obtain ⟨a, c, e, h1, h2, h3, h4⟩ := own_rows h.own fun i hi => (h.each i hi).row7
  exact ⟨a, c, by rw [e, ← hs, List.length_map], h2, h1, h3, h4, fun i hi => (h.each i hi).weaken fun _ _ => trivial⟩

set_option maxRecDepth 100000 in
set_option maxHeartbeats 8000000 in
theorem pathLeaves_any {w : World} {R : Nat → Prop} {t : T} {cs : Array Value} {n : Int} (h : Lies w R t cs) (hn0 : 0 ≤ n) (hn1 : n < 256) :
    Calls Try.prog 3 #[.agg cs, .int .u8 n] w fun e w' => e = .returned (.bool true) ∧ Below w.heap.size w w' := by
  have H := Lib.hid h
  obtain ⟨a0, a1, a2, a3, a4, a4l, a4c, a5, a5l, a5c, rfl⟩ := h.six
  obtain ⟨hkind, hmlen⟩ := lies_len H.out
  have hb0 := (Below.refl w.heap.size w).alloc (Nat.le_refl _) (.cells #[.int .i64 a0, .bool a1, .int .i64 a2, .string a3, .slice a4 a4l a4c, .slice a5 a5l a5c] 25)
  have hsz : (w.alloc (.cells #[.int .i64 a0, .bool a1, .int .i64 a2, .string a3, .slice a4 a4l a4c, .slice a5 a5l a5c] 25)).heap.size = w.heap.size + 1 := by simp
  have c1 := Box6.new w #[.int .i64 a0, .bool a1, .int .i64 a2, .string a3, .slice a4 a4l a4c, .slice a5 a5l a5c] 25
  clear h
  go_enter Try.func3, Try.ntmps3
  go_upto_region 1 with fail
  generalize w.alloc (.cells #[.int .i64 a0, .bool a1, .int .i64 a2, .string a3, .slice a4 a4l a4c, .slice a5 a5l a5c] 25) = v at hb0 hsz c1 ⊢
  have HV := Lib.hid hb0
  have C1 := Lib.hid c1
  have hv2 : w.heap.size + 1 ≤ v.heap.size := by omega
  obtain ⟨x0, x1, x2, x3, x4, x5⟩ := c1.six
  have hr := right_any (one_value (H.out.later hb0)) _ (Below.refl _ _)
  have HR := Lib.hid hr
  have hal := (Below.refl v.heap.size v).alloc (Nat.le_refl _) (.cells #[.int .i64 a0, .bool a1, .int .i64 a2, .string a3, .slice a4 a4l a4c, .slice a5 a5l a5c] 25)
  have HAL := Lib.hid hal
  clear hb0 hsz c1 hr hal
  have AW : Hid (∀ w1, Below v.heap.size v w1 → Calls Try.prog 7 #[] w1 fun e w' => e = .returned (.bool true) ∧ Below v.heap.size v w') := fun w1 hb => (l2awake_any w1).mono fun e w' ⟨he, hw⟩ => ⟨he, bstep hb hw hb.size⟩
  have GP : Hid (∀ w1, Below v.heap.size v w1 → Box6 w1 w.heap.size #[.int .i64 a0, .bool a1, .int .i64 a2, .string a3, .slice a4 a4l a4c, .slice a5 a5l a5c]) := fun w1 hb => C1.out.later hb (by omega)
  cases hg : [t].all T.good with
  | false =>
    rw [hg] at HR
    clear hg hkind hmlen
    go_wp2_with (first
      | (go_at_call 6; refine HR.out.mono ?_; rintro e w2 ⟨rfl, hb2⟩; have HB2 := Lib.hid (bstep HAL.out hb2 HAL.out.size); clear hb2)
      | (go_at_call 7; refine (AW.out _ HB2.out).mono ?_; rintro e w3 ⟨rfl, hb3⟩))
    go_ret
    exact ⟨rfl, bstep HV.out hb3 HV.out.size⟩
  | true =>
    have hgt : t.good = true := by simpa using hg
    rw [hg] at HR
    have HP := Lib.hid (good_parts hgt)
    have HSZ : Hid (t.size ≤ 6000) := by
      have h := hgt
      unfold T.good at h
      simp only [Bool.and_eq_true] at h
      exact T.light_size h.1
    clear hg hgt
    have LE := Lib.hid (fun w1 (hw1 : Below w.heap.size w w1) => leaves_any H.out HP.out (by have := HSZ.out; omega) w1 hw1)
    have RE := Lib.hid (fun w1 (hw1 : Below w.heap.size w w1) => rleaves_any H.out w1 hw1 (by have := HSZ.out; omega))
    have HN1 : Hid (0 < (leavesT t).length ∧ (leavesT t).length ≤ 6000) := ⟨List.length_pos_iff.2 (leaves_ne t), Nat.le_trans (leaves_size t) HSZ.out⟩
    have LF : Hid (∀ q ∈ leavesT t, q.1.length ≤ 6000) := fun q hq => Nat.le_trans (leaf_len t q hq) HSZ.out
    have RZ : Hid (∀ b j, (putAll (rotL (leavesT t) b j) T.nil).size ≤ 6000) := fun b j => Nat.le_trans (rot_size HP.out b j) HSZ.out
    have RA : Hid (∀ b, putAll (rotL (leavesT t) b (leavesT t).length) T.nil = t) := fun b => rot_all HP.out b
    generalize leavesT t = ls at LE RE HN1 LF RZ RA
    clear hkind hmlen
    obtain ⟨hnp, hnm⟩ := HN1.out
    go_upto_region 3 with (go_at_call 6; refine HR.out.mono ?_; rintro e w2 ⟨rfl, hb2⟩; have HB2 := Lib.hid (bstep HAL.out hb2 HAL.out.size); clear hb2)
    clear x0 x1 x2 x3 x4 x5
    refine wp_region_specs3 w2 6 (fun i => match i with | 0 => 15 | 1 => 16 | 2 => 17 | 3 => 18 | 4 => 5 | 5 => 6 | _ => 0) (fun i x wx => match i with | 0 => x = .agg #[.int .i64 a0, .bool a1, .int .i64 a2, .string a3, .slice a4 a4l a4c, .slice a5 a5l a5c] | 1 => ∃ (a : Option Addr) (c : Nat) (K : List LQ), x = .slice a ls.length c ∧ SliceK wx K a c ∧ K.map LQ.strip = ls | 2 => x = .agg #[.int .i64 a0, .bool a1, .int .i64 a2, .string a3, .slice a4 a4l a4c, .slice a5 a5l a5c] | 3 => ∃ (a : Option Addr) (c : Nat) (K : List LQ), x = .slice a ls.length c ∧ SliceK wx K a c ∧ K.map LQ.strip = ls | 4 => ∃ (a : Option Addr) (c : Nat) (K : List LQ), x = .slice a ls.length c ∧ SliceK wx K a c ∧ K.map LQ.strip = ls | 5 => ∃ (a : Option Addr) (c : Nat) (K : List LQ), x = .slice a ls.length c ∧ SliceK wx K a c ∧ K.map LQ.strip = ls | _ => True) (by kernel_rfl) (by kernel_rfl) ?s1 (Below.refl _ _) ?s2 ?s3 ?s4 ?s5
    case s1 => intro i hi; rcases (by omega : i = 0 ∨ i = 1 ∨ i = 2 ∨ i = 3 ∨ i = 4 ∨ i = 5) with rfl | rfl | rfl | rfl | rfl | rfl <;> exact Nat.lt_of_lt_of_le (by decide : _ < 84) (Nat.le_refl 84)
    case s2 =>
      intro i x w1 w2 hb hU
      match i, hU with
      | 1, ⟨a, c, K, e, hS, hs⟩ => exact ⟨a, c, K, e, hS.later hb, hs⟩
      | 3, ⟨a, c, K, e, hS, hs⟩ => exact ⟨a, c, K, e, hS.later hb, hs⟩
      | 4, ⟨a, c, K, e, hS, hs⟩ => exact ⟨a, c, K, e, hS.later hb, hs⟩
      | 5, ⟨a, c, K, e, hS, hs⟩ => exact ⟨a, c, K, e, hS.later hb, hs⟩
      | 0, h | 2, h => exact h
      | (n + 6), _ => trivial
    case s3 =>
      intro i o g b ho hg x w hu
      have hi : i < 6 := (Array.getElem?_eq_some_iff.1 ho).1
      rcases (by omega : i = 0 ∨ i = 1 ∨ i = 2 ∨ i = 3 ∨ i = 4 ∨ i = 5) with rfl | rfl | rfl | rfl | rfl | rfl
      · simp at ho; subst ho; cases hg
      · simp at ho; subst ho; cases hg
      · simp at ho; subst ho; cases hg
      · simp at ho; subst ho; cases hg
      · simp at ho; subst ho; cases hg
      · simp at ho; subst ho; cases hg
    case s4 =>
      intro i o ac wb K' ho hi hA hB hdep hK
      have sv2 : ac.tmps[2]?.getD undef = .pointer (some ⟨w.heap.size, 0, none⟩) := hA.sl (t := 2) (by decide)
      obtain ⟨x0, x1, x2, x3, x4, x5⟩ := (GP.out _ (bstep HB2.out hB HB2.out.size)).six
      rcases (by omega : i = 0 ∨ i = 1 ∨ i = 2 ∨ i = 3 ∨ i = 4 ∨ i = 5) with rfl | rfl | rfl | rfl | rfl | rfl
      · simp at ho
        subst ho
        clear hdep hA
        go_simp
        exact hK _ wb (Below.refl _ _) rfl
      · simp at ho
        subst ho
        have y0 : ac.tmps[15]?.getD undef = .agg #[.int .i64 a0, .bool a1, .int .i64 a2, .string a3, .slice a4 a4l a4c, .slice a5 a5l a5c] := hdep { on := 0, ground := .data } (by simp) rfl
        clear hdep hA
        go_simp
        refine (LE.out wb (bstep HV.out (bstep HB2.out hB HB2.out.size) HV.out.size)).mono ?_
        rintro e w5 ⟨a, c, K, rfl, hS, hs, hb⟩
        exact hK _ w5 hb ⟨a, c, K, rfl, hS, hs⟩
      · simp at ho
        subst ho
        clear hdep hA
        go_simp
        exact hK _ wb (Below.refl _ _) rfl
      · simp at ho
        subst ho
        have y2 : ac.tmps[17]?.getD undef = .agg #[.int .i64 a0, .bool a1, .int .i64 a2, .string a3, .slice a4 a4l a4c, .slice a5 a5l a5c] := hdep { on := 2, ground := .data } (by simp) rfl
        clear hdep hA
        go_simp
        refine (RE.out wb (bstep HV.out (bstep HB2.out hB HB2.out.size) HV.out.size)).mono ?_
        rintro e w5 ⟨v5, K, rfl, ho, hs, hb⟩
        obtain ⟨a, c, rfl, hS⟩ := RLvIn.slice ho hs
        exact hK _ w5 hb ⟨a, c, K, rfl, hS, hs⟩
      · simp at ho
        subst ho
        obtain ⟨a_y1, c_y1, K_y1, e_y1, hS_y1, hs_y1⟩ := hdep { on := 1, ground := .data } (by simp) rfl
        have y1 : ac.tmps[16]?.getD undef = .slice a_y1 ls.length c_y1 := e_y1
        clear hdep hA
        go_simp
        exact hK _ wb (Below.refl _ _) ⟨a_y1, c_y1, K_y1, rfl, hS_y1, hs_y1⟩
      · simp at ho
        subst ho
        obtain ⟨a_y3, c_y3, K_y3, e_y3, hS_y3, hs_y3⟩ := hdep { on := 3, ground := .data } (by simp) rfl
        have y3 : ac.tmps[18]?.getD undef = .slice a_y3 ls.length c_y3 := e_y3
        clear hdep hA
        go_simp
        exact hK _ wb (Below.refl _ _) ⟨a_y3, c_y3, K_y3, rfl, hS_y3, hs_y3⟩
    case s5 =>
      intro ac wn hA hB hU
      have hs : slots 6 (fun i => match i with | 0 => 15 | 1 => 16 | 2 => 17 | 3 => 18 | 4 => 5 | 5 => 6 | _ => 0) = [15, 16, 17, 18, 5, 6] := by rfl
      rw [hs] at hA
      have hac := hA.act (fun t ht => by
        have h8 : t = 15 ∨ t = 16 ∨ t = 17 ∨ t = 18 ∨ t = 5 ∨ t = 6 := by simpa using ht
        rcases h8 with rfl | rfl | rfl | rfl | rfl | rfl <;> exact Nat.lt_of_lt_of_le (by decide : _ < 84) (Nat.le_refl 84))
      rw [List.foldl_cons, List.foldl_cons, List.foldl_cons, List.foldl_cons, List.foldl_cons, List.foldl_cons, List.foldl_nil] at hac
      obtain ⟨wq, hwq⟩ : ∃ wq, wq = wn := ⟨_, rfl⟩
      subst hwq
      obtain ⟨a9, c9, K9, e9, hS9, hs9⟩ := hU 4 (by omega)
      obtain ⟨a8, c8, K8, e8, hS8, hs8⟩ := hU 5 (by omega)
      have e9 : sl ac 5 = .slice a9 ls.length c9 := e9
      have e8 : sl ac 6 = .slice a8 ls.length c8 := e8
      rw [e9, e8] at hac
      generalize sl ac 15 = x15 at hac
      generalize sl ac 16 = x16 at hac
      generalize sl ac 17 = x17 at hac
      generalize sl ac 18 = x18 at hac
      have HS9 := Lib.hid hS9
      have HS8 := Lib.hid hS8
      have HW9 := Lib.hid hs9
      have HW8 := Lib.hid hs8
      have HBN := Lib.hid (bstep HB2.out hB HB2.out.size)
      obtain ⟨lb, lo, ea9⟩ := hS9.ofSome (by have := congrArg List.length hs9; rw [List.length_map] at this; omega)
      obtain ⟨rb, ro, ea8⟩ := hS8.ofSome (by have := congrArg List.length hs8; rw [List.length_map] at this; omega)
      subst ea9 ea8
      have hc9 : ls.length ≤ c9 := by have h1 := hS9.le; have := congrArg List.length hs9; rw [List.length_map] at this; omega
      have hc8 : ls.length ≤ c8 := by have h1 := hS8.le; have := congrArg List.length hs8; rw [List.length_map] at this; omega
      clear hA hs hU e9 e8 hS9 hS8 hs9 hs8 LE RE hB
      subst hac
      simp only [Act.put, List.setIfInBounds_toArray, List.set_cons_succ, List.set_cons_zero]
      have f1 : ((ls.length : Int) != (ls.length : Int)) = false := by simp
      have f2 : ((ls.length : Int) == 0) = false := by rw [beq_eq_false_iff_ne]; omega
      obtain ⟨b, hb⟩ : ∃ b : Nat, n = (b : Int) := ⟨n.toNat, (Int.toNat_of_nonneg hn0).symm⟩
      subst hb
      have hnb := (Below.refl wq.heap.size wq).alloc (Nat.le_refl _) (.cells #[.int .i64 0, .bool false, .int .i64 0, .string ⟨#[]⟩, .slice none 0 0, .slice none 0 0] 25)
      have bx0 : BX (wq.alloc (.cells #[.int .i64 0, .bool false, .int .i64 0, .string ⟨#[]⟩, .slice none 0 0, .slice none 0 0] 25)) wq.heap.size #[.int .i64 0, .bool false, .int .i64 0, .string ⟨#[]⟩, .slice none 0 0, .slice none 0 0] := ⟨fun j hj => by rw [Nat.zero_add, World.cell?_alloc_new]; exact Array.getElem?_eq_getElem hj, fun j => World.frozen?_alloc_new _ _ _ _, by simp⟩
      have HNB := Lib.hid hnb
      have BX0 := Lib.hid bx0
      clear hnb bx0
      go_upto_region 7 with fail
      generalize wq.alloc (.cells #[.int .i64 0, .bool false, .int .i64 0, .string ⟨#[]⟩, .slice none 0 0, .slice none 0 0] 25) = wz at *
      have hg7 : wq.heap.size ≤ wq.heap.size := Nat.le_refl _
      go_wp2_with fail
      go_loopw [32] (fun v32 wr => ∃ (j : Nat) (A : T) (p0 : Int) (p1 : Bool) (p2 : Int) (p3 : ByteArray) (p4 : Option Addr) (p4l p4c : Nat) (p5 : Option Addr) (p5l p5c : Nat), j ≤ ls.length ∧ v32 = .int .i64 j ∧ Hid (A = putAll (rotL ls b j) T.nil) ∧ Hid (Lies wr (fun x => x ≠ wq.heap.size) A #[.int .i64 p0, .bool p1, .int .i64 p2, .string p3, .slice p4 p4l p4c, .slice p5 p5l p5c]) ∧ Hid (BX wr wq.heap.size #[.int .i64 p0, .bool p1, .int .i64 p2, .string p3, .slice p4 p4l p4c, .slice p5 p5l p5c]) ∧ Hid (Below wq.heap.size wq wr)) (fun v32 _ => ls.length - (intOf v32).toNat)
      case atStart => exact ⟨0, T.nil, 0, false, 0, ⟨#[]⟩, none, 0, 0, none, 0, 0, by omega, rfl, rfl, nil_lies wz _, BX0.out, HNB.out⟩
      case round =>
        obtain ⟨j, A, p0, p1, p2, p3, p4, p4l, p4c, p5, p5l, p5c, hj, rfl, HAE, HLA, BXA, HBR⟩ := hrel
        by_cases hjl : j < ls.length
        · obtain ⟨lb', lo', ka, kc, s0, s1, s2, s3, s4, s4l, s4c, s5, s5l, s5c, ha9, e0, e1, e2, e3, e4, e5, e6, hSS, hLs⟩ := HS9.out.leaf HW9.out HBR.out hjl
          obtain ⟨rfl, rfl⟩ : lb = lb' ∧ lo = lo' := by simpa using ha9
          obtain ⟨rb', ro', ra, rc, r0, r1, r2, r3, r4, r4l, r4c, r5, r5l, r5c, ha8, f0, g1, f2', f3, f4, f5, f6, hSR, hLr⟩ := HS8.out.leaf HW8.out HBR.out hjl
          obtain ⟨rfl, rfl⟩ : rb = rb' ∧ ro = ro' := by simpa using ha8
          have TX0 := fun w' (hw' : Below wr.heap.size wr w') => l2texts_any hSS hSR w' hw'
          have SA0 := fun w' (hw' : Below wr.heap.size wr w') => rSame_any hLs hLr w' hw'
          rw [T.same_self] at SA0
          generalize ls[j].1.length = L at e0 f0 TX0
          have TX := Lib.hid TX0
          have SA := Lib.hid SA0
          have f1' := g1
          clear ha9 ha8 hSS hSR hLs hLr TX0 SA0
          go_upto_region 10 with fail
          clear f1 f2
          have f1 := f1'
          have f2 := f2'
          clear g1 f1' f2'
          refine wp_region_specs3 wr 26 (fun i => match i with | 0 => 35 | 1 => 36 | 2 => 37 | 3 => 38 | 4 => 39 | 5 => 40 | 6 => 41 | 7 => 42 | 8 => 43 | 9 => 44 | 10 => 45 | 11 => 46 | 12 => 47 | 13 => 48 | 14 => 49 | 15 => 50 | 16 => 51 | 17 => 52 | 18 => 53 | 19 => 54 | 20 => 55 | 21 => 56 | 22 => 57 | 23 => 58 | 24 => 59 | 25 => 60 | _ => 0) (fun i x wx => match i with | 0 => x = .slice (some ⟨lb, lo, none⟩) ls.length c9 | 1 => x = .int .i64 j | 2 => x = .pointer (some ⟨lb, lo + j * 7, none⟩) | 3 => x = .pointer (some ⟨lb, lo + j * 7, none⟩) | 4 => x = .slice ka L kc | 5 => x = .slice (some ⟨rb, ro, none⟩) ls.length c8 | 6 => x = .int .i64 j | 7 => x = .pointer (some ⟨rb, ro + j * 7, none⟩) | 8 => x = .pointer (some ⟨rb, ro + j * 7, none⟩) | 9 => x = .slice ra L rc | 10 => x = .bool true | 11 => x = .bool false | 12 => x = .bool false | 13 => x = .slice (some ⟨lb, lo, none⟩) ls.length c9 | 14 => x = .int .i64 j | 15 => x = .pointer (some ⟨lb, lo + j * 7, none⟩) | 16 => x = .pointer (some ⟨lb, lo + j * 7 + 1, none⟩) | 17 => x = .agg #[.int .i64 s0, .bool s1, .int .i64 s2, .string s3, .slice s4 s4l s4c, .slice s5 s5l s5c] | 18 => x = .slice (some ⟨rb, ro, none⟩) ls.length c8 | 19 => x = .int .i64 j | 20 => x = .pointer (some ⟨rb, ro + j * 7, none⟩) | 21 => x = .pointer (some ⟨rb, ro + j * 7 + 1, none⟩) | 22 => x = .agg #[.int .i64 r0, .bool r1, .int .i64 r2, .string r3, .slice r4 r4l r4c, .slice r5 r5l r5c] | 23 => x = .bool true | 24 => x = .bool false | 25 => x = .bool false | _ => True) (by kernel_rfl) (by kernel_rfl) ?s1 (Below.refl _ _) ?s2 ?s3 ?s4 ?s5
          case s1 => intro i hi; rcases (by omega : i = 0 ∨ i = 1 ∨ i = 2 ∨ i = 3 ∨ i = 4 ∨ i = 5 ∨ i = 6 ∨ i = 7 ∨ i = 8 ∨ i = 9 ∨ i = 10 ∨ i = 11 ∨ i = 12 ∨ i = 13 ∨ i = 14 ∨ i = 15 ∨ i = 16 ∨ i = 17 ∨ i = 18 ∨ i = 19 ∨ i = 20 ∨ i = 21 ∨ i = 22 ∨ i = 23 ∨ i = 24 ∨ i = 25) with rfl | rfl | rfl | rfl | rfl | rfl | rfl | rfl | rfl | rfl | rfl | rfl | rfl | rfl | rfl | rfl | rfl | rfl | rfl | rfl | rfl | rfl | rfl | rfl | rfl | rfl <;> exact Nat.lt_of_lt_of_le (by decide : _ < 84) (Nat.le_refl 84)
          case s2 =>
            intro i x w1 w2 hb hU
            match i, hU with
            | 10, h => exact h
            | 23, h => exact h
            | 0, h | 1, h | 2, h | 3, h | 4, h | 5, h | 6, h | 7, h | 8, h | 9, h | 11, h | 12, h | 13, h | 14, h | 15, h | 16, h | 17, h | 18, h | 19, h | 20, h | 21, h | 22, h | 24, h | 25, h => exact h
            | (n + 26), _ => trivial
          case s3 =>
            intro i o g b ho hg x w hu
            have hi : i < 26 := (Array.getElem?_eq_some_iff.1 ho).1
            rcases (by omega : i = 0 ∨ i = 1 ∨ i = 2 ∨ i = 3 ∨ i = 4 ∨ i = 5 ∨ i = 6 ∨ i = 7 ∨ i = 8 ∨ i = 9 ∨ i = 10 ∨ i = 11 ∨ i = 12 ∨ i = 13 ∨ i = 14 ∨ i = 15 ∨ i = 16 ∨ i = 17 ∨ i = 18 ∨ i = 19 ∨ i = 20 ∨ i = 21 ∨ i = 22 ∨ i = 23 ∨ i = 24 ∨ i = 25) with rfl | rfl | rfl | rfl | rfl | rfl | rfl | rfl | rfl | rfl | rfl | rfl | rfl | rfl | rfl | rfl | rfl | rfl | rfl | rfl | rfl | rfl | rfl | rfl | rfl | rfl
            · simp at ho; subst ho; cases hg
            · simp at ho; subst ho; cases hg
            · simp at ho; subst ho; cases hg
            · simp at ho; subst ho; cases hg
            · simp at ho; subst ho; cases hg
            · simp at ho; subst ho; cases hg
            · simp at ho; subst ho; cases hg
            · simp at ho; subst ho; cases hg
            · simp at ho; subst ho; cases hg
            · simp at ho; subst ho; cases hg
            · simp at ho; subst ho; cases hg
            · simp at ho; subst ho; cases hg
            · simp at ho; subst ho; cases hg
            · simp at ho; subst ho; cases hg; exact hu
            · simp at ho; subst ho; cases hg; exact hu
            · simp at ho; subst ho; cases hg; exact hu
            · simp at ho; subst ho; cases hg; exact hu
            · simp at ho; subst ho; cases hg; exact hu
            · simp at ho; subst ho; cases hg; exact hu
            · simp at ho; subst ho; cases hg; exact hu
            · simp at ho; subst ho; cases hg; exact hu
            · simp at ho; subst ho; cases hg; exact hu
            · simp at ho; subst ho; cases hg; exact hu
            · simp at ho; subst ho; cases hg; exact hu
            · simp at ho; subst ho; cases hg; exact hu
            · simp at ho; subst ho; cases hg
          case s4 =>
            intro i o ac wb K' ho hi hA hB hdep hK
            have sv5 : ac.tmps[5]?.getD undef = .slice (some ⟨lb, lo, none⟩) ls.length c9 := hA.sl (t := 5) (by decide)
            have sv6 : ac.tmps[6]?.getD undef = .slice (some ⟨rb, ro, none⟩) ls.length c8 := hA.sl (t := 6) (by decide)
            have sv8 : ac.tmps[8]?.getD undef = .int .i64 j := hA.sl (t := 8) (by decide)
            have e0 := cells_frame hB e0
            have e1 := cells_frame hB e1
            have e2 := cells_frame hB e2
            have e3 := cells_frame hB e3
            have e4 := cells_frame hB e4
            have e5 := cells_frame hB e5
            have e6 := cells_frame hB e6
            have f0 := cells_frame hB f0
            have f1 := cells_frame hB f1
            have f2 := cells_frame hB f2
            have f3 := cells_frame hB f3
            have f4 := cells_frame hB f4
            have f5 := cells_frame hB f5
            have f6 := cells_frame hB f6
            rcases (by omega : i = 0 ∨ i = 1 ∨ i = 2 ∨ i = 3 ∨ i = 4 ∨ i = 5 ∨ i = 6 ∨ i = 7 ∨ i = 8 ∨ i = 9 ∨ i = 10 ∨ i = 11 ∨ i = 12 ∨ i = 13 ∨ i = 14 ∨ i = 15 ∨ i = 16 ∨ i = 17 ∨ i = 18 ∨ i = 19 ∨ i = 20 ∨ i = 21 ∨ i = 22 ∨ i = 23 ∨ i = 24 ∨ i = 25) with rfl | rfl | rfl | rfl | rfl | rfl | rfl | rfl | rfl | rfl | rfl | rfl | rfl | rfl | rfl | rfl | rfl | rfl | rfl | rfl | rfl | rfl | rfl | rfl | rfl | rfl
            · simp at ho
              subst ho
              clear hdep hA
              go_simp
              exact hK _ wb (Below.refl _ _) rfl
            · simp at ho
              subst ho
              clear hdep hA
              go_simp
              exact hK _ wb (Below.refl _ _) rfl
            · simp at ho
              subst ho
              have y0 : ac.tmps[35]?.getD undef = .slice (some ⟨lb, lo, none⟩) ls.length c9 := hdep { on := 0, ground := .data } (by simp) rfl
              have y1 : ac.tmps[36]?.getD undef = .int .i64 j := hdep { on := 1, ground := .data } (by simp) rfl
              clear hdep hA
              go_simp
              exact hK _ wb (Below.refl _ _) rfl
            · simp at ho
              subst ho
              have y2 : ac.tmps[37]?.getD undef = .pointer (some ⟨lb, lo + j * 7, none⟩) := hdep { on := 2, ground := .data } (by simp) rfl
              clear hdep hA
              go_simp
              exact hK _ wb (Below.refl _ _) rfl
            · simp at ho
              subst ho
              have y3 : ac.tmps[38]?.getD undef = .pointer (some ⟨lb, lo + j * 7, none⟩) := hdep { on := 3, ground := .data } (by simp) rfl
              clear hdep hA
              go_simp
              exact hK _ wb (Below.refl _ _) rfl
            · simp at ho
              subst ho
              clear hdep hA
              go_simp
              exact hK _ wb (Below.refl _ _) rfl
            · simp at ho
              subst ho
              clear hdep hA
              go_simp
              exact hK _ wb (Below.refl _ _) rfl
            · simp at ho
              subst ho
              have y5 : ac.tmps[40]?.getD undef = .slice (some ⟨rb, ro, none⟩) ls.length c8 := hdep { on := 5, ground := .data } (by simp) rfl
              have y6 : ac.tmps[41]?.getD undef = .int .i64 j := hdep { on := 6, ground := .data } (by simp) rfl
              clear hdep hA
              go_simp
              exact hK _ wb (Below.refl _ _) rfl
            · simp at ho
              subst ho
              have y7 : ac.tmps[42]?.getD undef = .pointer (some ⟨rb, ro + j * 7, none⟩) := hdep { on := 7, ground := .data } (by simp) rfl
              clear hdep hA
              go_simp
              exact hK _ wb (Below.refl _ _) rfl
            · simp at ho
              subst ho
              have y8 : ac.tmps[43]?.getD undef = .pointer (some ⟨rb, ro + j * 7, none⟩) := hdep { on := 8, ground := .data } (by simp) rfl
              clear hdep hA
              go_simp
              exact hK _ wb (Below.refl _ _) rfl
            · simp at ho
              subst ho
              have y4 : ac.tmps[39]?.getD undef = .slice ka L kc := hdep { on := 4, ground := .data } (by simp) rfl
              have y9 : ac.tmps[44]?.getD undef = .slice ra L rc := hdep { on := 9, ground := .data } (by simp) rfl
              clear hdep hA
              go_simp
              refine (TX.out wb hB).mono ?_
              rintro e w5 ⟨rfl, hb5⟩
              exact hK _ w5 hb5 rfl
            · simp at ho
              subst ho
              have y10 : ac.tmps[45]?.getD undef = .bool true := hdep { on := 10, ground := .data } (by simp) rfl
              clear hdep hA
              go_simp
              exact hK _ wb (Below.refl _ _) rfl
            · simp at ho
              subst ho
              have y11 : ac.tmps[46]?.getD undef = .bool false := hdep { on := 11, ground := .data } (by simp) rfl
              clear hdep hA
              go_simp
              exact hK _ wb (Below.refl _ _) rfl
            · simp at ho
              subst ho
              clear hdep hA
              go_simp
              exact hK _ wb (Below.refl _ _) rfl
            · simp at ho
              subst ho
              clear hdep hA
              go_simp
              exact hK _ wb (Below.refl _ _) rfl
            · simp at ho
              subst ho
              have y13 : ac.tmps[48]?.getD undef = .slice (some ⟨lb, lo, none⟩) ls.length c9 := hdep { on := 13, ground := .data } (by simp) rfl
              have y14 : ac.tmps[49]?.getD undef = .int .i64 j := hdep { on := 14, ground := .data } (by simp) rfl
              clear hdep hA
              go_simp
              exact hK _ wb (Below.refl _ _) rfl
            · simp at ho
              subst ho
              have y15 : ac.tmps[50]?.getD undef = .pointer (some ⟨lb, lo + j * 7, none⟩) := hdep { on := 15, ground := .data } (by simp) rfl
              clear hdep hA
              go_simp
              exact hK _ wb (Below.refl _ _) rfl
            · simp at ho
              subst ho
              have y16 : ac.tmps[51]?.getD undef = .pointer (some ⟨lb, lo + j * 7 + 1, none⟩) := hdep { on := 16, ground := .data } (by simp) rfl
              clear hdep hA
              go_simp
              exact hK _ wb (Below.refl _ _) rfl
            · simp at ho
              subst ho
              clear hdep hA
              go_simp
              exact hK _ wb (Below.refl _ _) rfl
            · simp at ho
              subst ho
              clear hdep hA
              go_simp
              exact hK _ wb (Below.refl _ _) rfl
            · simp at ho
              subst ho
              have y18 : ac.tmps[53]?.getD undef = .slice (some ⟨rb, ro, none⟩) ls.length c8 := hdep { on := 18, ground := .data } (by simp) rfl
              have y19 : ac.tmps[54]?.getD undef = .int .i64 j := hdep { on := 19, ground := .data } (by simp) rfl
              clear hdep hA
              go_simp
              exact hK _ wb (Below.refl _ _) rfl
            · simp at ho
              subst ho
              have y20 : ac.tmps[55]?.getD undef = .pointer (some ⟨rb, ro + j * 7, none⟩) := hdep { on := 20, ground := .data } (by simp) rfl
              clear hdep hA
              go_simp
              exact hK _ wb (Below.refl _ _) rfl
            · simp at ho
              subst ho
              have y21 : ac.tmps[56]?.getD undef = .pointer (some ⟨rb, ro + j * 7 + 1, none⟩) := hdep { on := 21, ground := .data } (by simp) rfl
              clear hdep hA
              go_simp
              exact hK _ wb (Below.refl _ _) rfl
            · simp at ho
              subst ho
              have y17 : ac.tmps[52]?.getD undef = .agg #[.int .i64 s0, .bool s1, .int .i64 s2, .string s3, .slice s4 s4l s4c, .slice s5 s5l s5c] := hdep { on := 17, ground := .data } (by simp) rfl
              have y22 : ac.tmps[57]?.getD undef = .agg #[.int .i64 r0, .bool r1, .int .i64 r2, .string r3, .slice r4 r4l r4c, .slice r5 r5l r5c] := hdep { on := 22, ground := .data } (by simp) rfl
              clear hdep hA
              go_simp
              refine (SA.out wb hB).mono ?_
              rintro e w5 ⟨rfl, hb5⟩
              exact hK _ w5 hb5 rfl
            · simp at ho
              subst ho
              have y23 : ac.tmps[58]?.getD undef = .bool true := hdep { on := 23, ground := .data } (by simp) rfl
              clear hdep hA
              go_simp
              exact hK _ wb (Below.refl _ _) rfl
            · simp at ho
              subst ho
              have y12 : ac.tmps[47]?.getD undef = .bool false := hdep { on := 12, ground := .data } (by simp) rfl
              have y24 : ac.tmps[59]?.getD undef = .bool false := hdep { on := 24, ground := .data } (by simp) rfl
              clear hdep hA
              go_simp
              exact hK _ wb (Below.refl _ _) rfl
          case s5 =>
            intro ac wn hA hB hU
            have hs : slots 26 (fun i => match i with | 0 => 35 | 1 => 36 | 2 => 37 | 3 => 38 | 4 => 39 | 5 => 40 | 6 => 41 | 7 => 42 | 8 => 43 | 9 => 44 | 10 => 45 | 11 => 46 | 12 => 47 | 13 => 48 | 14 => 49 | 15 => 50 | 16 => 51 | 17 => 52 | 18 => 53 | 19 => 54 | 20 => 55 | 21 => 56 | 22 => 57 | 23 => 58 | 24 => 59 | 25 => 60 | _ => 0) = [35, 36, 37, 38, 39, 40, 41, 42, 43, 44, 45, 46, 47, 48, 49, 50, 51, 52, 53, 54, 55, 56, 57, 58, 59, 60] := by rfl
            rw [hs] at hA
            have hac := hA.act (fun t ht => by
              have h8 : t = 35 ∨ t = 36 ∨ t = 37 ∨ t = 38 ∨ t = 39 ∨ t = 40 ∨ t = 41 ∨ t = 42 ∨ t = 43 ∨ t = 44 ∨ t = 45 ∨ t = 46 ∨ t = 47 ∨ t = 48 ∨ t = 49 ∨ t = 50 ∨ t = 51 ∨ t = 52 ∨ t = 53 ∨ t = 54 ∨ t = 55 ∨ t = 56 ∨ t = 57 ∨ t = 58 ∨ t = 59 ∨ t = 60 := by simpa using ht
              rcases h8 with rfl | rfl | rfl | rfl | rfl | rfl | rfl | rfl | rfl | rfl | rfl | rfl | rfl | rfl | rfl | rfl | rfl | rfl | rfl | rfl | rfl | rfl | rfl | rfl | rfl | rfl <;> exact Nat.lt_of_lt_of_le (by decide : _ < 84) (Nat.le_refl 84))
            rw [List.foldl_cons, List.foldl_cons, List.foldl_cons, List.foldl_cons, List.foldl_cons, List.foldl_cons, List.foldl_cons, List.foldl_cons, List.foldl_cons, List.foldl_cons, List.foldl_cons, List.foldl_cons, List.foldl_cons, List.foldl_cons, List.foldl_cons, List.foldl_cons, List.foldl_cons, List.foldl_cons, List.foldl_cons, List.foldl_cons, List.foldl_cons, List.foldl_cons, List.foldl_cons, List.foldl_cons, List.foldl_cons, List.foldl_cons, List.foldl_nil] at hac
            have e60 : sl ac 60 = .bool false := hU 25 (by omega)
            rw [e60] at hac
            generalize sl ac 35 = x35 at hac
            generalize sl ac 36 = x36 at hac
            generalize sl ac 37 = x37 at hac
            generalize sl ac 38 = x38 at hac
            generalize sl ac 39 = x39 at hac
            generalize sl ac 40 = x40 at hac
            generalize sl ac 41 = x41 at hac
            generalize sl ac 42 = x42 at hac
            generalize sl ac 43 = x43 at hac
            generalize sl ac 44 = x44 at hac
            generalize sl ac 45 = x45 at hac
            generalize sl ac 46 = x46 at hac
            generalize sl ac 47 = x47 at hac
            generalize sl ac 48 = x48 at hac
            generalize sl ac 49 = x49 at hac
            generalize sl ac 50 = x50 at hac
            generalize sl ac 51 = x51 at hac
            generalize sl ac 52 = x52 at hac
            generalize sl ac 53 = x53 at hac
            generalize sl ac 54 = x54 at hac
            generalize sl ac 55 = x55 at hac
            generalize sl ac 56 = x56 at hac
            generalize sl ac 57 = x57 at hac
            generalize sl ac 58 = x58 at hac
            generalize sl ac 59 = x59 at hac
            have HBT := Lib.hid (bstep HBR.out hB HBR.out.size)
            have HBX := Lib.hid hB
            clear hA hs hU e60 hB e0 e1 e2 e3 e4 e5 e6 f0 f1 f2 f3 f4 f5 f6 TX SA
            subst hac
            simp only [Act.put, List.setIfInBounds_toArray, List.set_cons_succ, List.set_cons_zero]
            obtain ⟨m, hm⟩ : ∃ m, m = (j + b) % ls.length := ⟨_, rfl⟩
            have hml : m < ls.length := by rw [hm]; exact Nat.mod_lt _ hnp
            have hmod : ((j : Int) + (b : Int)) % (ls.length : Int) = (m : Int) := by rw [hm]; norm_cast
            obtain ⟨lb', lo', ka, kc, s0, s1, s2, s3, s4, s4l, s4c, s5, s5l, s5c, ha9, e0, e1, e2, e3, e4, e5, e6, hSS, hLs⟩ := HS9.out.leaf HW9.out HBT.out hml
            obtain ⟨rfl, rfl⟩ : lb = lb' ∧ lo = lo' := by simpa using ha9
            have hL6 := LF.out ls[m] (List.getElem_mem hml)
            have hAz : A.size ≤ 6000 := by rw [HAE.out]; exact RZ.out b j
            have HAE2 : Hid (putL ls[m].1 A ls[m].2 = putAll (rotL ls b (j + 1)) T.nil) := by
              show _ = _
              rw [putAll_step ls b j (by rw [← hm]; exact hml), ← HAE.out]
              subst hm
              rfl
            obtain ⟨ks, hks⟩ : ∃ ks, ks = ls[m].1 := ⟨_, rfl⟩
            rw [← hks] at e0 hSS hL6 HAE2
            have hb1 := (Below.refl wn.heap.size wn).alloc (Nat.le_refl _) (.cells #[.slice ka ks.length kc, .int .i64 s0, .bool s1, .int .i64 s2, .string s3, .slice s4 s4l s4c, .slice s5 s5l s5c] 35)
            have pc : ∀ i, (wn.alloc (.cells #[.slice ka ks.length kc, .int .i64 s0, .bool s1, .int .i64 s2, .string s3, .slice s4 s4l s4c, .slice s5 s5l s5c] 35)).cell? ⟨wn.heap.size, i, none⟩ = (#[Value.slice ka ks.length kc, .int .i64 s0, .bool s1, .int .i64 s2, .string s3, .slice s4 s4l s4c, .slice s5 s5l s5c] : Array Value)[i]? := fun i => World.cell?_alloc_new _ _ _ _
            have HB1 := Lib.hid hb1
            have PC := Lib.hid pc
            have SSJ := Lib.hid (hSS.later hb1)
            have LSJ := Lib.hid (hLs.later hb1)
            have BXZ := Lib.hid ((BXA.out.later HBX.out).later hb1)
            have HLZ := Lib.hid ((HLA.out.later HBX.out).later hb1)
            have HZ := Lib.hid (bstep HBT.out hb1 HBT.out.size)
            clear ha9 hb1 pc hSS hLs hm hks
            go_upto_region 13 with fail
            generalize wn.alloc (.cells #[.slice ka ks.length kc, .int .i64 s0, .bool s1, .int .i64 s2, .string s3, .slice s4 s4l s4c, .slice s5 s5l s5c] 35) = z at *
            clear e0 e1 e2 e3 e4 e5 e6 hmod
            have m0 : z.cell? ⟨wn.heap.size, 0, none⟩ = some (.slice ka ks.length kc) := PC.out 0
            have m1 : z.cell? ⟨wn.heap.size, 1, none⟩ = some (.int .i64 s0) := PC.out 1
            have m2 : z.cell? ⟨wn.heap.size, 2, none⟩ = some (.bool s1) := PC.out 2
            have m3 : z.cell? ⟨wn.heap.size, 3, none⟩ = some (.int .i64 s2) := PC.out 3
            have m4 : z.cell? ⟨wn.heap.size, 4, none⟩ = some (.string s3) := PC.out 4
            have m5 : z.cell? ⟨wn.heap.size, 5, none⟩ = some (.slice s4 s4l s4c) := PC.out 5
            have m6 : z.cell? ⟨wn.heap.size, 6, none⟩ = some (.slice s5 s5l s5c) := PC.out 6
            obtain ⟨y0, y1, y2, y3, y4, y5⟩ := (row_box6 BXZ.out.row).six
            have PU0 := pPut_any HLZ.out LSJ.out SSJ.out (by omega) (by omega) z (Below.refl _ _)
            generalize putL ks A ls[m].2 = A' at PU0 HAE2
            generalize ks.length = L2 at PU0 m0
            have PU := Lib.hid PU0
            have hgz := BXZ.out.lt
            clear PU0 PC SSJ LSJ hAz hL6
            go_upto_region 14 with (go_at_call 12; refine PU.out.mono ?_; rintro e w7 ⟨us, rfl, hL, hb⟩; obtain ⟨u0, u1, u2, u3, u4, u4l, u4c, u5, u5l, u5c, rfl⟩ := hL.six; have HB7 := Lib.hid hb; have HL7 := Lib.hid hL; clear hL hb y0 y1 y2 y3 y4 y5; obtain ⟨y0, y1, y2, y3, y4, y5⟩ := (row_box6 (BXZ.out.later HB7.out).row).six; have zf := (BXZ.out.later HB7.out).frz)
            have BXN := Lib.hid ((BXZ.out.later HB7.out).store (B := #[.int .i64 u0, .bool u1, .int .i64 u2, .string u3, .slice u4 u4l u4c, .slice u5 u5l u5c]) rfl rfl)
            have HLN : Hid (Lies (setRow w7 wq.heap.size 0 [.int .i64 u0, .bool u1, .int .i64 u2, .string u3, .slice u4 u4l u4c, .slice u5 u5l u5c]) (fun x => x ≠ wq.heap.size) A' #[.int .i64 u0, .bool u1, .int .i64 u2, .string u3, .slice u4 u4l u4c, .slice u5 u5l u5c]) := (HL7.out.keep (w' := setRow w7 wq.heap.size 0 [.int .i64 u0, .bool u1, .int .i64 u2, .string u3, .slice u4 u4l u4c, .slice u5 u5l u5c]) fun bb hb => setRow_heap _ _ _ _ _ (by omega)).weaken fun x hx => by omega
            have HBF : Hid (Below wq.heap.size wq (setRow w7 wq.heap.size 0 [.int .i64 u0, .bool u1, .int .i64 u2, .string u3, .slice u4 u4l u4c, .slice u5 u5l u5c])) := setRow_below _ (Nat.le_refl _) _ _ _ (bstep HZ.out HB7.out HZ.out.size)
            clear y0 y1 y2 y3 y4 y5 zf m0 m1 m2 m3 m4 m5 m6
            go_wp2_with fail
            go_roundw
            case rel => exact ⟨j + 1, A', u0, u1, u2, u3, u4, u4l, u4c, u5, u5l, u5c, by omega, by go_num, HAE2.out, HLN.out, BXN.out, HBF.out⟩
            case measure => simp [intOf]; omega
        · obtain rfl : j = ls.length := by omega
          have HSM := Lib.hid (rSame_any HLA.out (H.out.later (bstep HV.out (bstep HBN.out HBR.out HBN.out.size) HV.out.size)))
          have hAt : A = t := HAE.out.trans (RA.out b)
          clear hjl
          go_wp2_with (first
            | (go_at_call 7; refine (l2awake_any _).mono ?_; rintro e w3 ⟨rfl, hb3⟩; have HB3 := Lib.hid hb3; clear hb3; obtain ⟨y0, y1, y2, y3, y4, y5⟩ := (row_box6 (BXA.out.later HB3.out).row).six; obtain ⟨x0, x1, x2, x3, x4, x5⟩ := (GP.out _ (bstep (bstep HBN.out HBR.out HBN.out.size) HB3.out (bstep HBN.out HBR.out HBN.out.size).size)).six)
            | (go_at_call 11; refine (HSM.out w3 HB3.out).mono ?_; rintro e wf ⟨he, hbf⟩; rw [hAt, T.same_self] at he; subst he; have HBF := Lib.hid hbf; clear hbf))
          go_ret
          exact ⟨rfl, bstep HV.out (bstep (bstep HBN.out HBR.out HBN.out.size) (bstep HB3.out HBF.out HB3.out.size) (bstep HBN.out HBR.out HBN.out.size).size) HV.out.size⟩

end Go.Proofs.Ytfmlhdkodnbfaaa
