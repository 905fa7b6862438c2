/-
  PathAll: the law's contract.
-/
import Derived.Test.YtfmlhdkodnbfaaaLawDropsP
import Derived.Test.YtfmlhdkodnbfaaaGood
import Derived.Test.YtfmlhdkodnbfaaaLeafA
import Derived.Test.YtfmlhdkodnbfaaaTwoL
set_option linter.unusedVariables false
set_option linter.unusedSimpArgs false
namespace Go.Proofs.Ytfmlhdkodnbfaaa
open Go.RowKit Go.Sort

set_option maxRecDepth 100000 in
set_option maxHeartbeats 8000000 in
theorem pathAll_any {w : World} {R : Nat → Prop} {t : T} {cs : Array Value} {n : Int} (h : Lies w R t cs) (hn0 : 0 ≤ n) (hn1 : n < 256) :
    Calls Try.prog 5 #[.agg cs, .int .u8 n] w fun e w' => e = .returned (.bool true) ∧ Below w.heap.size w w' := by
  have H := Lib.hid h
  obtain ⟨a0, a1, a2, a3, a4, a4l, a4c, a5, a5l, a5c, rfl⟩ := h.six
  obtain ⟨hkind, hmlen⟩ := lies_len H.out
  have hb0 := (Below.refl w.heap.size w).alloc (Nat.le_refl _) (.cells #[.int .i64 a0, .bool a1, .int .i64 a2, .string a3, .slice a4 a4l a4c, .slice a5 a5l a5c] 25)
  have hsz : (w.alloc (.cells #[.int .i64 a0, .bool a1, .int .i64 a2, .string a3, .slice a4 a4l a4c, .slice a5 a5l a5c] 25)).heap.size = w.heap.size + 1 := by simp
  have c1 := Box6.new w #[.int .i64 a0, .bool a1, .int .i64 a2, .string a3, .slice a4 a4l a4c, .slice a5 a5l a5c] 25
  clear h
  go_enter Try.func5, Try.ntmps5
  go_upto_region 1 with fail
  generalize w.alloc (.cells #[.int .i64 a0, .bool a1, .int .i64 a2, .string a3, .slice a4 a4l a4c, .slice a5 a5l a5c] 25) = v at hb0 hsz c1 ⊢
  have HV := Lib.hid hb0
  have C1 := Lib.hid c1
  have hv2 : w.heap.size + 1 ≤ v.heap.size := by omega
  obtain ⟨x0, x1, x2, x3, x4, x5⟩ := c1.six
  have hr := right_any (one_value (H.out.later hb0)) _ (Below.refl _ _)
  have HR := Lib.hid hr
  have hal := (Below.refl v.heap.size v).alloc (Nat.le_refl _) (.cells #[.int .i64 a0, .bool a1, .int .i64 a2, .string a3, .slice a4 a4l a4c, .slice a5 a5l a5c] 25)
  have HAL := Lib.hid hal
  clear hb0 hsz c1 hr hal
  have AW : Hid (∀ w1, Below v.heap.size v w1 → Calls Try.prog 7 #[] w1 fun e w' => e = .returned (.bool true) ∧ Below v.heap.size v w') := fun w1 hb => (l2awake_any w1).mono fun e w' ⟨he, hw⟩ => ⟨he, bstep hb hw hb.size⟩
  have GP : Hid (∀ w1, Below v.heap.size v w1 → Box6 w1 w.heap.size #[.int .i64 a0, .bool a1, .int .i64 a2, .string a3, .slice a4 a4l a4c, .slice a5 a5l a5c]) := fun w1 hb => C1.out.later hb (by omega)
  cases hg : [t].all T.good with
  | false =>
    rw [hg] at HR
    clear hg hkind hmlen
    go_wp2_with (first
      | (go_at_call 6; refine HR.out.mono ?_; rintro e w2 ⟨rfl, hb2⟩; have HB2 := Lib.hid (bstep HAL.out hb2 HAL.out.size); clear hb2)
      | (go_at_call 7; refine (AW.out _ HB2.out).mono ?_; rintro e w3 ⟨rfl, hb3⟩))
    go_ret
    exact ⟨rfl, bstep HV.out hb3 HV.out.size⟩
  | true =>
    have hgt : t.good = true := by simpa using hg
    rw [hg] at HR
    have HP := Lib.hid (good_parts hgt)
    have HSZ : Hid (t.size ≤ 6000) := by
      have h := hgt
      unfold T.good at h
      simp only [Bool.and_eq_true] at h
      exact T.light_size h.1
    clear hg hgt
    by_cases hk5 : a0 = 5
    case neg =>
      have f1 : (a0 != 5) = true := by simp [hk5]
      clear hk5 hkind hmlen
      go_wp2_with (first
        | (go_at_call 6; refine HR.out.mono ?_; rintro e w2 ⟨rfl, hb2⟩; have HB2 := Lib.hid (bstep HAL.out hb2 HAL.out.size); clear hb2; obtain ⟨x0, x1, x2, x3, x4, x5⟩ := (GP.out _ HB2.out).six)
        | (go_at_call 7; refine (AW.out _ HB2.out).mono ?_; rintro e w3 ⟨rfl, hb3⟩))
      go_ret
      exact ⟨rfl, bstep HV.out hb3 HV.out.size⟩
    case pos =>
      subst hk5
      by_cases hm0 : a5l = 0
      case pos =>
        have f2 : ((a5l : Int) == 0) = true := by rw [hm0]; rfl
        clear hm0 hkind hmlen
        go_wp2_with (first
          | (go_at_call 6; refine HR.out.mono ?_; rintro e w2 ⟨rfl, hb2⟩; have HB2 := Lib.hid (bstep HAL.out hb2 HAL.out.size); clear hb2; obtain ⟨x0, x1, x2, x3, x4, x5⟩ := (GP.out _ HB2.out).six)
          | (go_at_call 7; refine (AW.out _ HB2.out).mono ?_; rintro e w3 ⟨rfl, hb3⟩))
        go_ret
        exact ⟨rfl, bstep HV.out hb3 HV.out.size⟩
      case neg =>
        have f2 : ((a5l : Int) == 0) = false := by rw [beq_eq_false_iff_ne]; omega
        have SZ := Lib.hid (fun w1 (hw1 : Below w.heap.size w w1) => tSize_any H.out w1 hw1 (by have := HSZ.out; omega))
        by_cases hs3 : 300 < t.size
        case pos =>
          have f3 : (300 : Int) < (t.size : Int) := by omega
          clear hm0 hkind hmlen hs3
          go_wp2_with (first
            | (go_at_call 6; refine HR.out.mono ?_; rintro e w2 ⟨rfl, hb2⟩; have HB2 := Lib.hid (bstep HAL.out hb2 HAL.out.size); clear hb2; obtain ⟨x0, x1, x2, x3, x4, x5⟩ := (GP.out _ HB2.out).six)
            | (go_at_call 16; refine (SZ.out _ (bstep HV.out HB2.out HV.out.size)).mono ?_; rintro e wS ⟨rfl, hbS⟩; have HBS := Lib.hid (bstep HB2.out hbS HB2.out.size); clear hbS x0 x1 x2 x3 x4 x5; obtain ⟨x0, x1, x2, x3, x4, x5⟩ := (GP.out _ HBS.out).six)
            | (go_at_call 7; refine (AW.out _ HBS.out).mono ?_; rintro e w3 ⟨rfl, hb3⟩))
          go_ret
          exact ⟨rfl, bstep HV.out hb3 HV.out.size⟩
        case neg =>
          have f3 : ¬ (300 : Int) < (t.size : Int) := by omega
          have HM : Hid (t.map ≠ []) := fun e => hm0 (by rw [← hmlen, e]; rfl)
          have LE := Lib.hid (fun w1 (hw1 : Below w.heap.size w w1) => leaves_any H.out HP.out (by have := HSZ.out; omega) w1 hw1)
          have HN1 : Hid (0 < (leavesT t).length ∧ (leavesT t).length ≤ 6000) := ⟨List.length_pos_iff.2 (leaves_ne t), Nat.le_trans (leaves_size t) HSZ.out⟩
          have LF : Hid (∀ q ∈ leavesT t, q.1.length ≤ 6000) := fun q hq => Nat.le_trans (leaf_len t q hq) HSZ.out
          have FS : Hid (∀ b, Far t b 0 t t) := fun b => Far.start HP.out HM.out
          have FN : Hid (∀ b j p d, Far t b j p d → ∀ (hj : j < (leavesT t).length) (hi : (j + b) % (leavesT t).length < (leavesT t).length), Far t b (j + 1) (pruneAt (leavesT t)[(j + b) % (leavesT t).length].1 p) (dropAt (leavesT t)[(j + b) % (leavesT t).length].1 d)) := fun b j p d h hj hi => h.next HP.out HM.out hj hi
          have FA : Hid (∀ b p d, Far t b (leavesT t).length p d → p.map = [] ∧ ∀ q ∈ leavesT d, q.2.kind = 5) := fun b p d h => h.all
          generalize leavesT t = ls at LE HN1 LF FN FA
          clear hm0 hkind hmlen hs3
          go_upto_region 4 with (first
            | (go_at_call 6; refine HR.out.mono ?_; rintro e w2 ⟨rfl, hb2⟩; have HB2 := Lib.hid (bstep HAL.out hb2 HAL.out.size); clear hb2; obtain ⟨x0, x1, x2, x3, x4, x5⟩ := (GP.out _ HB2.out).six)
            | (go_at_call 16; refine (SZ.out _ (bstep HV.out HB2.out HV.out.size)).mono ?_; rintro e wS ⟨rfl, hbS⟩; have HBS := Lib.hid (bstep HB2.out hbS HB2.out.size); clear hbS x0 x1 x2 x3 x4 x5; obtain ⟨x0, x1, x2, x3, x4, x5⟩ := (GP.out _ HBS.out).six)
            | (go_at_call 8; refine (LE.out _ (bstep HV.out HBS.out HV.out.size)).mono ?_; rintro e w4 ⟨a9, c9, K, rfl, hS, hwh, hb4⟩; have HS := Lib.hid hS; have HWH := Lib.hid hwh; have HB4 := Lib.hid (bstep HBS.out hb4 HBS.out.size); clear hS hwh hb4))
          clear x0 x1 x2 x3 x4 x5 HB2 HBS LE SZ
          obtain ⟨hnp, hnm⟩ := HN1.out
          obtain ⟨b, hb⟩ : ∃ b : Nat, n = (b : Int) := ⟨n.toNat, (Int.toNat_of_nonneg hn0).symm⟩
          subst hb
          obtain ⟨x0, x1, x2, x3, x4, x5⟩ := (GP.out _ HB4.out).six
          skip
          refine wp_region_keepsB (fun a0 d ac wb => Agree [35, 36, 6, 7] a0 ac ∧ Hid (ac.tmps.size = 95) ∧ sl ac 2 = .pointer (some ⟨w.heap.size, 0, none⟩) ∧ P2 w4 #[.int .i64 5, .bool a1, .int .i64 a2, .string a3, .slice a4 a4l a4c, .slice a5 a5l a5c] d (sl ac 35) (sl ac 36) (sl ac 6) (sl ac 7) wb) (by kernel_rfl) (by kernel_rfl) ?_ ?_ ?_
          · exact ⟨Agree.refl _ _, rfl, rfl, P2.start (Below.refl _ _).drew _ _ _ _⟩
          · intro d ac wb i o K' ho hd hdep hI hK
            obtain ⟨hA, hz, s2, hP⟩ := hI
            have hi : i < 6 := by simpa using (Array.getElem?_eq_some_iff.1 ho).1
            obtain ⟨x0, x1, x2, x3, x4, x5⟩ := (GP.out _ (bstep HB4.out hP.below HB4.out.size)).six
            have s2' : ac.tmps[2]?.getD undef = _ := s2
            rcases (by omega : i = 0 ∨ i = 1 ∨ i = 2 ∨ i = 3 ∨ i = 4 ∨ i = 5) with rfl | rfl | rfl | rfl | rfl | rfl
            · simp at ho
              subst ho
              refine wpOp_of rfl rfl ?_
              go_simp
              refine hK (ac.put (some 35) (.agg #[.int .i64 5, .bool a1, .int .i64 a2, .string a3, .slice a4 a4l a4c, .slice a5 a5l a5c])) wb ⟨hA.put (by simp) _, (size_put _ _ _).trans hz.out, (sl_ne (by decide) _).trans s2, ?_⟩
              simp only [sl_if (show (35 : Nat) < ac.tmps.size by have := hz.out; omega), if_true, Nat.reduceEqDiff, if_false, reduceIte]
              exact hP.at0
            · simp at ho
              subst ho
              refine wpOp_of rfl rfl ?_
              go_simp
              refine hK (ac.put (some 36) (.agg #[.int .i64 5, .bool a1, .int .i64 a2, .string a3, .slice a4 a4l a4c, .slice a5 a5l a5c])) wb ⟨hA.put (by simp) _, (size_put _ _ _).trans hz.out, (sl_ne (by decide) _).trans s2, ?_⟩
              simp only [sl_if (show (36 : Nat) < ac.tmps.size by have := hz.out; omega), if_true, Nat.reduceEqDiff, if_false, reduceIte]
              exact hP.at1
            · simp at ho
              subst ho
              refine wpOp_of rfl rfl ?_
              go_simp
              refine hK (ac.put (some 6) (.pointer (some ⟨wb.heap.size, 0, none⟩))) _ ⟨hA.put (by simp) _, (size_put _ _ _).trans hz.out, (sl_ne (by decide) _).trans s2, ?_⟩
              simp only [sl_if (show (6 : Nat) < ac.tmps.size by have := hz.out; omega), if_true, Nat.reduceEqDiff, if_false, reduceIte]
              exact hP.at2 hd
            · simp at ho
              subst ho
              refine wpOp_of rfl rfl ?_
              go_simp
              refine hK (ac.put (some 7) (.pointer (some ⟨wb.heap.size, 0, none⟩))) _ ⟨hA.put (by simp) _, (size_put _ _ _).trans hz.out, (sl_ne (by decide) _).trans s2, ?_⟩
              simp only [sl_if (show (7 : Nat) < ac.tmps.size by have := hz.out; omega), if_true, Nat.reduceEqDiff, if_false, reduceIte]
              exact hP.at3 hd
            · simp at ho
              subst ho
              refine wpOp_of rfl rfl ?_
              have d2 := hdep { on := 2, ground := .data } (by simp) rfl
              have d0 := hdep { on := 0, ground := .data } (by simp) rfl
              have d3 := hdep { on := 3, ground := .phase } (by simp) rfl
              obtain ⟨g, e6, zb, hP2⟩ := hP.at4 rfl d2 d3 hd
              have s6 : ac.tmps[6]?.getD undef = _ := e6
              have s35 : ac.tmps[35]?.getD undef = _ := hP.c0 d0
              have zc : ∀ j, wb.cell? ⟨g, j, none⟩ = (#[.int .i64 0, .bool false, .int .i64 0, .string ⟨#[]⟩, .slice none 0 0, .slice none 0 0] : Array Value)[j]? := zb.cell
              have zf := zb.frozen
              go_simp
              exact hK ac _ ⟨hA, hz, s2, hP2⟩
            · simp at ho
              subst ho
              refine wpOp_of rfl rfl ?_
              have d3 := hdep { on := 3, ground := .data } (by simp) rfl
              have d1 := hdep { on := 1, ground := .data } (by simp) rfl
              have d2 := hdep { on := 2, ground := .phase } (by simp) rfl
              obtain ⟨g, e7, zb, hP2⟩ := hP.at5 rfl d2 d3 hd
              have s7 : ac.tmps[7]?.getD undef = _ := e7
              have s36 : ac.tmps[36]?.getD undef = _ := hP.c1 d1
              have zc : ∀ j, wb.cell? ⟨g, j, none⟩ = (#[.int .i64 0, .bool false, .int .i64 0, .string ⟨#[]⟩, .slice none 0 0, .slice none 0 0] : Array Value)[j]? := zb.cell
              have zf := zb.frozen
              go_simp
              exact hK ac _ ⟨hA, hz, s2, hP2⟩
          · intro d ac wb hall hI
            obtain ⟨hA, hz, s2, hP⟩ := hI
            obtain ⟨g6, g7, e6, e7, hne, hg6, hg7, hl6, hl7, hx6, hx7, hbb⟩ := hP.all hall
            have hac := hA.act (fun t ht => by
              have h8 : t = 35 ∨ t = 36 ∨ t = 6 ∨ t = 7 := by simpa using ht
              rcases h8 with rfl | rfl | rfl | rfl <;> exact Nat.lt_of_lt_of_le (by decide : _ < 95) (Nat.le_refl 95))
            rw [List.foldl_cons, List.foldl_cons, List.foldl_cons, List.foldl_cons, List.foldl_nil, e6, e7] at hac
            generalize sl ac 35 = x35 at hac
            generalize sl ac 36 = x36 at hac
            have HBB := Lib.hid hbb
            have HX6 := Lib.hid hx6
            have HX7 := Lib.hid hx7
            have HWW := Lib.hid (bstep HV.out (bstep HB4.out hbb HB4.out.size) HV.out.size)
            have HLT := Lib.hid ((H.out.bound.later HWW.out).weaken (R' := fun x => x ≠ g6 ∧ x ≠ g7) fun x hx => by
              have h1 := hx.2
              have h2 := HV.out.size
              have h3 := HB4.out.size
              omega)
            clear hA hz s2 hP e6 e7 hall hbb hx6 hx7 x0 x1 x2 x3 x4 x5
            subst hac
            simp only [Act.put, List.setIfInBounds_toArray, List.set_cons_succ, List.set_cons_zero]
            go_wp2_with fail
            go_loopw [39] (fun v39 wr => ∃ (j : Nat) (P D : T) (p0 : Int) (p1 : Bool) (p2 : Int) (p3 : ByteArray) (p4 : Option Addr) (p4l p4c : Nat) (p5 : Option Addr) (p5l p5c : Nat) (q0 : Int) (q1 : Bool) (q2 : Int) (q3 : ByteArray) (q4 : Option Addr) (q4l q4c : Nat) (q5 : Option Addr) (q5l q5c : Nat), j ≤ ls.length ∧ v39 = .int .i64 j ∧ Hid (Far t b j P D) ∧ Hid (Lies wr (fun x => x ≠ g6 ∧ x ≠ g7) P #[.int .i64 p0, .bool p1, .int .i64 p2, .string p3, .slice p4 p4l p4c, .slice p5 p5l p5c]) ∧ Hid (Lies wr (fun x => x ≠ g6 ∧ x ≠ g7) D #[.int .i64 q0, .bool q1, .int .i64 q2, .string q3, .slice q4 q4l q4c, .slice q5 q5l q5c]) ∧ Hid (BX wr g6 #[.int .i64 p0, .bool p1, .int .i64 p2, .string p3, .slice p4 p4l p4c, .slice p5 p5l p5c]) ∧ Hid (BX wr g7 #[.int .i64 q0, .bool q1, .int .i64 q2, .string q3, .slice q4 q4l q4c, .slice q5 q5l q5c]) ∧ Hid (Below w4.heap.size w4 wr)) (fun v39 _ => ls.length - (intOf v39).toNat)
            case atStart => exact ⟨0, t, t, 5, a1, a2, a3, a4, a4l, a4c, a5, a5l, a5c, 5, a1, a2, a3, a4, a4l, a4c, a5, a5l, a5c, by omega, rfl, FS.out b, HLT.out, HLT.out, HX6.out, HX7.out, HBB.out⟩
            case round =>
              obtain ⟨j, P, D, p0, p1, p2, p3, p4, p4l, p4c, p5, p5l, p5c, q0, q1, q2, q3, q4, q4l, q4c, q5, q5l, q5c, hj, rfl, FR, HLP, HLQ, BX6, BX7, HBR⟩ := hrel
              clear HX6 HX7 HLT HBB HWW
              by_cases hjl : j < ls.length
              · obtain ⟨m, hm⟩ : ∃ m, m = (j + b) % ls.length := ⟨_, rfl⟩
                have hml : m < ls.length := by rw [hm]; exact Nat.mod_lt _ hnp
                have hmod : ((j : Int) + (b : Int)) % (ls.length : Int) = (m : Int) := by rw [hm]; norm_cast
                obtain ⟨lb, lo, ka, kc, s0, s1, s2, s3, s4, s4l, s4c, s5, s5l, s5c, ha9, e0, e1, e2, e3, e4, e5, e6, hSS, hLs⟩ := HS.out.leaf HWH.out HBR.out hml
                have FR1 := FN.out b j P D FR.out hjl (by rw [← hm]; exact hml)
                have hL6 := LF.out ls[m] (List.getElem_mem hml)
                obtain ⟨ks, hks⟩ : ∃ ks, ks = ls[m].1 := ⟨_, rfl⟩
                have FR2 : Hid (Far t b (j + 1) (pruneAt ks P) (dropAt ks D)) := by
                  show Far _ _ _ _ _
                  rw [hks]
                  subst hm
                  exact FR1
                rw [← hks] at e0 hSS hL6
                have hb1 := (Below.refl wr.heap.size wr).alloc (Nat.le_refl _) (.cells #[.slice ka ks.length kc, .int .i64 s0, .bool s1, .int .i64 s2, .string s3, .slice s4 s4l s4c, .slice s5 s5l s5c] 35)
                have es : (wr.alloc (.cells #[.slice ka ks.length kc, .int .i64 s0, .bool s1, .int .i64 s2, .string s3, .slice s4 s4l s4c, .slice s5 s5l s5c] 35)).heap.size = wr.heap.size + 1 := by simp
                have pc := World.cell?_alloc_new wr #[.slice ka ks.length kc, .int .i64 s0, .bool s1, .int .i64 s2, .string s3, .slice s4 s4l s4c, .slice s5 s5l s5c] 35 0
                have HB1 := Lib.hid hb1
                have PC := Lib.hid pc
                have SSJ := Lib.hid (hSS.later hb1)
                have ES := Lib.hid es
                have HPS := Lib.hid FR.out.ps
                have HDS := Lib.hid FR.out.ds
                subst ha9
                clear hb1 es pc hSS hLs FR1 hm hks
                go_upto_region 9 with fail
                generalize wr.alloc (.cells #[.slice ka ks.length kc, .int .i64 s0, .bool s1, .int .i64 s2, .string s3, .slice s4 s4l s4c, .slice s5 s5l s5c] 35) = z at *
                have hz1 : z.heap.size = wr.heap.size + 1 := ES.out
                clear ES e0 e1 e2 e3 e4 e5 e6
                have m0 : z.cell? ⟨wr.heap.size, 0, none⟩ = some (.slice ka ks.length kc) := PC.out
                have QR0 : ∀ w', Below z.heap.size z w' → Calls Try.prog 13 #[.agg #[.int .i64 p0, .bool p1, .int .i64 p2, .string p3, .slice p4 p4l p4c, .slice p5 p5l p5c], .slice ka ks.length kc] w' (PutIn w' (pruneAt ks P)) := fun w' hw' => pPrune_any (HLP.out.later HB1.out) SSJ.out (by omega) (by have h1 := HSZ.out; have h2 := HPS.out; omega) w' hw'
                have DR0 : ∀ w', Below z.heap.size z w' → Calls Try.prog 14 #[.agg #[.int .i64 q0, .bool q1, .int .i64 q2, .string q3, .slice q4 q4l q4c, .slice q5 q5l q5c], .slice ka ks.length kc] w' (PutIn w' (dropAt ks D)) := fun w' hw' => pDrop_any (HLQ.out.later HB1.out) SSJ.out (by omega) (by have h1 := HSZ.out; have h2 := HDS.out; omega) w' hw'
                generalize pruneAt ks P = P' at QR0 FR2
                generalize dropAt ks D = D' at DR0 FR2
                generalize ks.length = L at QR0 DR0 m0 hL6 PC SSJ
                have QR := Lib.hid QR0
                have DR := Lib.hid DR0
                have BZ6 := Lib.hid (BX6.out.later HB1.out)
                have BZ7 := Lib.hid (BX7.out.later HB1.out)
                have HZ4 := Lib.hid (bstep HBR.out HB1.out HBR.out.size)
                have hgz6 : g6 < z.heap.size := BZ6.out.lt
                have hgz7 : g7 < z.heap.size := BZ7.out.lt
                clear QR0 DR0 HPS HDS PC SSJ hmod
                refine wp_region_specsM z 8 (fun i => 52 + i) (fun i x wx => match i with | 0 => x = .agg #[.int .i64 p0, .bool p1, .int .i64 p2, .string p3, .slice p4 p4l p4c, .slice p5 p5l p5c] | 1 => x = .pointer (some ⟨wr.heap.size, 0, none⟩) | 2 => x = .slice ka L kc | 3 => ∃ cs, x = .agg cs ∧ Lies wx (fun b => z.heap.size ≤ b) P' cs | 4 => x = .agg #[.int .i64 q0, .bool q1, .int .i64 q2, .string q3, .slice q4 q4l q4c, .slice q5 q5l q5c] | 5 => x = .pointer (some ⟨wr.heap.size, 0, none⟩) | 6 => x = .slice ka L kc | 7 => ∃ cs, x = .agg cs ∧ Lies wx (fun b => z.heap.size ≤ b) D' cs | _ => True) (fun b' wx => ∃ (cs ds : Array Value), b'.tmps[59]?.getD undef = .agg ds ∧ BX wx g6 cs ∧ BX wx g7 #[.int .i64 q0, .bool q1, .int .i64 q2, .string q3, .slice q4 q4l q4c, .slice q5 q5l q5c] ∧ Lies wx (fun b => z.heap.size ≤ b) P' cs ∧ Lies wx (fun b => z.heap.size ≤ b) D' ds ∧ Below w4.heap.size w4 wx) (fun _ wx => ∃ (cs ds : Array Value), BX wx g6 cs ∧ BX wx g7 ds ∧ Lies wx (fun b => z.heap.size ≤ b) P' cs ∧ Lies wx (fun b => z.heap.size ≤ b) D' ds ∧ Below w4.heap.size w4 wx) (by kernel_rfl) (by kernel_rfl) ?s1 (Below.refl _ _) ?s2 ?s3 ?s4 ?s5 ?s6
                case s1 => intro i hi; exact Nat.lt_of_lt_of_le (show 52 + i < 95 by omega) (Nat.le_refl 95)
                case s2 =>
                  intro i x w1 w2 hb hU
                  match i, hU with
                  | 3, ⟨cs, e, hl⟩ => exact ⟨cs, e, hl.later hb⟩
                  | 7, ⟨cs, e, hl⟩ => exact ⟨cs, e, hl.later hb⟩
                  | 0, h | 1, h | 2, h | 4, h | 5, h | 6, h => exact h
                  | (m + 8), _ => trivial
                case s3 =>
                  intro i o ac wb K' ho hi hA hB hdep hK
                  have sv6 : ac.tmps[6]?.getD undef = .pointer (some ⟨g6, 0, none⟩) := hA.sl (t := 6) (by decide)
                  have sv7 : ac.tmps[7]?.getD undef = .pointer (some ⟨g7, 0, none⟩) := hA.sl (t := 7) (by decide)
                  have sv9 : ac.tmps[9]?.getD undef = .pointer (some ⟨wr.heap.size, 0, none⟩) := hA.sl (t := 9) (by decide)
                  obtain ⟨y0, y1, y2, y3, y4, y5⟩ := (row_box6 (BZ6.out.later hB).row).six
                  obtain ⟨z0', z1', z2', z3', z4', z5'⟩ := (row_box6 (BZ7.out.later hB).row).six
                  have m0 : wb.cell? ⟨wr.heap.size, 0, none⟩ = some (.slice ka L kc) := cells_frame hB m0
                  rcases (by omega : i = 0 ∨ i = 1 ∨ i = 2 ∨ i = 3 ∨ i = 4 ∨ i = 5 ∨ i = 6 ∨ i = 7) with rfl | rfl | rfl | rfl | rfl | rfl | rfl | rfl
                  · simp at ho
                    subst ho
                    clear hdep hA
                    go_simp
                    exact hK _ wb (Below.refl _ _) rfl
                  · simp at ho
                    subst ho
                    clear hdep hA
                    go_simp
                    exact hK _ wb (Below.refl _ _) rfl
                  · simp at ho
                    subst ho
                    have z1 : ac.tmps[53]?.getD undef = .pointer (some ⟨wr.heap.size, 0, none⟩) := hdep { on := 1, ground := .data } (by simp) rfl
                    clear hdep hA
                    go_simp
                    exact hK _ wb (Below.refl _ _) rfl
                  · simp at ho
                    subst ho
                    have z0 : ac.tmps[52]?.getD undef = .agg #[.int .i64 p0, .bool p1, .int .i64 p2, .string p3, .slice p4 p4l p4c, .slice p5 p5l p5c] := hdep { on := 0, ground := .data } (by simp) rfl
                    have z2 : ac.tmps[54]?.getD undef = .slice ka L kc := hdep { on := 2, ground := .data } (by simp) rfl
                    clear hdep hA
                    go_simp
                    refine (QR.out wb hB).mono ?_
                    rintro e w5 ⟨cs, rfl, hL, hb⟩
                    exact hK _ w5 hb ⟨cs, rfl, hL.weaken fun b hb2 => Nat.le_trans hB.size hb2⟩
                  · simp at ho
                    subst ho
                    clear hdep hA
                    go_simp
                    exact hK _ wb (Below.refl _ _) rfl
                  · simp at ho
                    subst ho
                    clear hdep hA
                    go_simp
                    exact hK _ wb (Below.refl _ _) rfl
                  · simp at ho
                    subst ho
                    have z1 : ac.tmps[57]?.getD undef = .pointer (some ⟨wr.heap.size, 0, none⟩) := hdep { on := 5, ground := .data } (by simp) rfl
                    clear hdep hA
                    go_simp
                    exact hK _ wb (Below.refl _ _) rfl
                  · simp at ho
                    subst ho
                    have z0 : ac.tmps[56]?.getD undef = .agg #[.int .i64 q0, .bool q1, .int .i64 q2, .string q3, .slice q4 q4l q4c, .slice q5 q5l q5c] := hdep { on := 4, ground := .data } (by simp) rfl
                    have z2 : ac.tmps[58]?.getD undef = .slice ka L kc := hdep { on := 6, ground := .data } (by simp) rfl
                    clear hdep hA
                    go_simp
                    refine (DR.out wb hB).mono ?_
                    rintro e w5 ⟨cs, rfl, hL, hb⟩
                    exact hK _ w5 hb ⟨cs, rfl, hL.weaken fun b hb2 => Nat.le_trans hB.size hb2⟩
                case s4 =>
                  intro o ac wb K' ho hA hB hU hK
                  simp at ho
                  subst ho
                  have sv6 : ac.tmps[6]?.getD undef = .pointer (some ⟨g6, 0, none⟩) := hA.sl (t := 6) (by decide)
                  obtain ⟨cs, e3, hL3⟩ := hU 3 (by omega)
                  obtain ⟨ds, e7, hL7⟩ := hU 7 (by omega)
                  obtain ⟨c0, c1, c2, c3, c4, c4l, c4c, c5, c5l, c5c, rfl⟩ := hL3.six
                  have z55 : ac.tmps[55]?.getD undef = .agg #[.int .i64 c0, .bool c1, .int .i64 c2, .string c3, .slice c4 c4l c4c, .slice c5 c5l c5c] := e3
                  have hx6 := BZ6.out.later hB
                  have hx7 := BZ7.out.later hB
                  obtain ⟨y0, y1, y2, y3, y4, y5⟩ := (row_box6 hx6.row).six
                  have zf := hx6.frz
                  have hbx := hx6.store (B := #[.int .i64 c0, .bool c1, .int .i64 c2, .string c3, .slice c4 c4l c4c, .slice c5 c5l c5c]) rfl rfl
                  have hbo := hx7.other (h := g6) (Ne.symm hne) [.int .i64 c0, .bool c1, .int .i64 c2, .string c3, .slice c4 c4l c4c, .slice c5 c5l c5c]
                  have hk : ∀ bb, bb ≠ g6 → (setRow wb g6 0 [.int .i64 c0, .bool c1, .int .i64 c2, .string c3, .slice c4 c4l c4c, .slice c5 c5l c5c]).heap[bb]? = wb.heap[bb]? := fun bb hb => setRow_heap _ _ _ _ _ hb
                  have hl3 : Lies (setRow wb g6 0 [.int .i64 c0, .bool c1, .int .i64 c2, .string c3, .slice c4 c4l c4c, .slice c5 c5l c5c]) (fun b => z.heap.size ≤ b) P' #[.int .i64 c0, .bool c1, .int .i64 c2, .string c3, .slice c4 c4l c4c, .slice c5 c5l c5c] := hL3.keep fun bb hb => hk bb (by omega)
                  have hl7 : Lies (setRow wb g6 0 [.int .i64 c0, .bool c1, .int .i64 c2, .string c3, .slice c4 c4l c4c, .slice c5 c5l c5c]) (fun b => z.heap.size ≤ b) D' ds := hL7.keep fun bb hb => hk bb (by omega)
                  have hbb : Below w4.heap.size w4 (setRow wb g6 0 [.int .i64 c0, .bool c1, .int .i64 c2, .string c3, .slice c4 c4l c4c, .slice c5 c5l c5c]) := setRow_below _ hg6 _ _ _ (bstep HZ4.out hB HZ4.out.size)
                  clear hU hA
                  go_simp
                  exact hK _ ⟨_, ds, e7, hbx, hbo, hl3, hl7, hbb⟩
                case s5 =>
                  intro o ac wb K' ho hA hF hK
                  obtain ⟨cs, ds, e7, hx6, hx7, hl3, hl7, hbb⟩ := hF
                  simp at ho
                  subst ho
                  have sv7 : ac.tmps[7]?.getD undef = .pointer (some ⟨g7, 0, none⟩) := hA.sl (t := 7) (by decide)
                  obtain ⟨e0, e1, e2, e3, e4, e4l, e4c, e5, e5l, e5c, rfl⟩ := hl7.six
                  obtain ⟨y0, y1, y2, y3, y4, y5⟩ := (row_box6 hx7.row).six
                  have zf := hx7.frz
                  have hbx := hx7.store (B := #[.int .i64 e0, .bool e1, .int .i64 e2, .string e3, .slice e4 e4l e4c, .slice e5 e5l e5c]) rfl rfl
                  have hbo := hx6.other (h := g7) hne [.int .i64 e0, .bool e1, .int .i64 e2, .string e3, .slice e4 e4l e4c, .slice e5 e5l e5c]
                  have hk : ∀ bb, bb ≠ g7 → (setRow wb g7 0 [.int .i64 e0, .bool e1, .int .i64 e2, .string e3, .slice e4 e4l e4c, .slice e5 e5l e5c]).heap[bb]? = wb.heap[bb]? := fun bb hb => setRow_heap _ _ _ _ _ hb
                  have hl3' : Lies (setRow wb g7 0 [.int .i64 e0, .bool e1, .int .i64 e2, .string e3, .slice e4 e4l e4c, .slice e5 e5l e5c]) (fun b => z.heap.size ≤ b) P' cs := hl3.keep fun bb hb => hk bb (by omega)
                  have hl7' : Lies (setRow wb g7 0 [.int .i64 e0, .bool e1, .int .i64 e2, .string e3, .slice e4 e4l e4c, .slice e5 e5l e5c]) (fun b => z.heap.size ≤ b) D' #[.int .i64 e0, .bool e1, .int .i64 e2, .string e3, .slice e4 e4l e4c, .slice e5 e5l e5c] := hl7.keep fun bb hb => hk bb (by omega)
                  have hbb' : Below w4.heap.size w4 (setRow wb g7 0 [.int .i64 e0, .bool e1, .int .i64 e2, .string e3, .slice e4 e4l e4c, .slice e5 e5l e5c]) := setRow_below _ hg7 _ _ _ hbb
                  clear hA
                  go_simp
                  exact hK _ ⟨cs, _, hbo, hbx, hl3', hl7', hbb'⟩
                case s6 =>
                  intro ac wn hA hF
                  obtain ⟨cs, ds, hx6, hx7, hl3, hl7, hbb⟩ := hF
                  obtain ⟨c0, c1, c2, c3, c4, c4l, c4c, c5, c5l, c5c, rfl⟩ := hl3.six
                  obtain ⟨e0, e1, e2, e3, e4, e4l, e4c, e5, e5l, e5c, rfl⟩ := hl7.six
                  have hs : slots 8 (fun i => 52 + i) = [52, 53, 54, 55, 56, 57, 58, 59] := by rfl
                  rw [hs] at hA
                  have hac := hA.act (fun t ht => by
                    have h8 : t = 52 ∨ t = 53 ∨ t = 54 ∨ t = 55 ∨ t = 56 ∨ t = 57 ∨ t = 58 ∨ t = 59 := by simpa using ht
                    rcases h8 with rfl | rfl | rfl | rfl | rfl | rfl | rfl | rfl <;> exact Nat.lt_of_lt_of_le (by decide : _ < 95) (Nat.le_refl 95))
                  rw [List.foldl_cons, List.foldl_cons, List.foldl_cons, List.foldl_cons, List.foldl_cons, List.foldl_cons, List.foldl_cons, List.foldl_cons, List.foldl_nil] at hac
                  generalize sl ac 52 = x52 at hac
                  generalize sl ac 53 = x53 at hac
                  generalize sl ac 54 = x54 at hac
                  generalize sl ac 55 = x55 at hac
                  generalize sl ac 56 = x56 at hac
                  generalize sl ac 57 = x57 at hac
                  generalize sl ac 58 = x58 at hac
                  generalize sl ac 59 = x59 at hac
                  have HX6 := Lib.hid hx6
                  have HX7 := Lib.hid hx7
                  have HL3 := Lib.hid (hl3.weaken (R' := fun x => x ≠ g6 ∧ x ≠ g7) fun x hx => by omega)
                  have HL7 := Lib.hid (hl7.weaken (R' := fun x => x ≠ g6 ∧ x ≠ g7) fun x hx => by omega)
                  have HBN := Lib.hid hbb
                  clear hA hs hx6 hx7 hl3 hl7 hbb m0
                  subst hac
                  simp only [Act.put, List.setIfInBounds_toArray, List.set_cons_succ, List.set_cons_zero]
                  go_wp2_with fail
                  go_roundw
                  case rel => exact ⟨j + 1, P', D', c0, c1, c2, c3, c4, c4l, c4c, c5, c5l, c5c, e0, e1, e2, e3, e4, e4l, e4c, e5, e5l, e5c, by omega, by go_num, FR2.out, HL3.out, HL7.out, HX6.out, HX7.out, HBN.out⟩
                  case measure => simp [intOf]; omega
              · obtain rfl : j = ls.length := by omega
                clear hjl
                obtain ⟨hPM, hDK⟩ := FA.out b P D FR.out
                have hp5 := FR.out.p5
                have hd5 := FR.out.d5
                obtain ⟨k1, k2⟩ := lies_len HLP.out
                obtain ⟨k3, _⟩ := lies_len HLQ.out
                have hpz : p5l = 0 := by rw [← k2, hPM]; rfl
                have hp0 : p0 = 5 := by rw [← k1, hp5]
                have hq0 : q0 = 5 := by rw [← k3, hd5]
                subst hpz hp0 hq0
                have LE2 := Lib.hid (fun w1 (hw1 : Below wr.heap.size wr w1) => leaves_any HLQ.out FR.out.dp (by have h1 := HSZ.out; have h2 := FR.out.ds; omega) w1 hw1)
                have HDK := Lib.hid hDK
                clear hPM hDK hp5 hd5 k1 k2 k3
                have hn2 : (leavesT D).length ≤ 6000 := Nat.le_trans (leaves_size D) (by have h1 := HSZ.out; have h2 := FR.out.ds; omega)
                generalize leavesT D = ls2 at LE2 HDK hn2
                obtain ⟨z0', z1', z2', z3', z4', z5'⟩ := (row_box6 BX7.out.row).six
                go_upto_region 12 with (go_at_call 8; refine (LE2.out wr (Below.refl _ _)).mono ?_; rintro e wy ⟨a8, c8, K8, rfl, hS8, hwh8, hb8⟩; have HS8 := Lib.hid hS8; have HWH8 := Lib.hid hwh8; have HB8 := Lib.hid hb8; clear hS8 hwh8 hb8)
                have HYB := Lib.hid (bstep HBR.out HB8.out HBR.out.size)
                clear LE2 z0' z1' z2' z3' z4' z5'
                go_wp2_with fail
                go_loopw [64] (fun v64 wx => ∃ i : Nat, i ≤ ls2.length ∧ v64 = .int .i64 i ∧ Below wy.heap.size wy wx) (fun v64 _ => ls2.length - (intOf v64).toNat)
                case atStart => exact ⟨0, by omega, rfl, Below.refl _ _⟩
                case round =>
                  have B6Y := Lib.hid (BX6.out.later HB8.out)
                  have B7Y := Lib.hid (BX7.out.later HB8.out)
                  obtain ⟨i, hi, rfl, hbi⟩ := hrel
                  have HBI := Lib.hid hbi
                  clear hbi
                  by_cases hil : i < ls2.length
                  · obtain ⟨lb, lo, ka, kc, s0, s1, s2, s3, s4, s4l, s4c, s5, s5l, s5c, ha8, e0, e1, e2, e3, e4, e5, e6, hSS, hLs⟩ := HS8.out.leaf HWH8.out HBI.out hil
                    have hk5 : s0 = 5 := (lies_len hLs).1.symm.trans (HDK.out _ (List.getElem_mem hil))
                    subst hk5 ha8
                    have HB1 := Lib.hid (bstep HBI.out ((Below.refl wr.heap.size wr).alloc (Nat.le_refl _) (.cells #[.slice ka ls2[i].1.length kc, .int .i64 5, .bool s1, .int .i64 s2, .string s3, .slice s4 s4l s4c, .slice s5 s5l s5c] 35)) HBI.out.size)
                    have pc : (wr.alloc (.cells #[.slice ka ls2[i].1.length kc, .int .i64 5, .bool s1, .int .i64 s2, .string s3, .slice s4 s4l s4c, .slice s5 s5l s5c] 35)).cell? ⟨wr.heap.size, 1, none⟩ = some (.int .i64 5) := World.cell?_alloc_new wr _ 35 1
                    have PC := Lib.hid pc
                    clear hSS hLs pc
                    go_upto_region 14 with fail
                    generalize wr.alloc (.cells #[.slice ka ls2[i].1.length kc, .int .i64 5, .bool s1, .int .i64 s2, .string s3, .slice s4 s4l s4c, .slice s5 s5l s5c] 35) = z at *
                    have pc := PC.out
                    clear e0 e1 e2 e3 e4 e5 e6
                    go_wp2_with fail
                    go_roundw
                    case rel => exact ⟨i + 1, by omega, by go_num, HB1.out⟩
                    case measure => simp [intOf]; omega
                  · obtain rfl : i = ls2.length := by omega
                    have HWX := Lib.hid (bstep HB4.out (bstep HYB.out HBI.out HYB.out.size) HB4.out.size)
                    have hpos : (0 : Int) < (ls.length : Int) := by omega
                    have B6W := Lib.hid (B6Y.out.later HBI.out)
                    have B7W := Lib.hid (B7Y.out.later HBI.out)
                    clear hil
                    go_wp2_with (go_at_call 7; refine (l2awake_any _).mono ?_; rintro e w3 ⟨rfl, hb3⟩; have HB3 := Lib.hid hb3; clear hb3; obtain ⟨y0, y1, y2, y3, y4, y5⟩ := (row_box6 (B6W.out.later HB3.out).row).six; obtain ⟨z0', z1', z2', z3', z4', z5'⟩ := (row_box6 (B7W.out.later HB3.out).row).six)
                    go_ret
                    exact ⟨rfl, bstep HV.out (bstep HWX.out HB3.out HWX.out.size) HV.out.size⟩

end Go.Proofs.Ytfmlhdkodnbfaaa
