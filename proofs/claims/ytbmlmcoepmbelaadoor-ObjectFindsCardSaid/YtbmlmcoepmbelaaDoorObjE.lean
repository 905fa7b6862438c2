/-
  Package object's Compare, told with the count of draws.
-/
import Derived.Test.YtbmlmcoepmbelaaDoorObjC
import Derived.Test.YtbmlmcoepmbelaaDoorSpecsK
import Derived.Shelf.SlSortCmp.WholeK
set_option linter.unusedVariables false
set_option linter.unusedSimpArgs false
namespace Go.Proofs.YtbmlmcoepmbelaaDoor
open Go.RowKit

/-- Only new blocks, and no fewer draws. -/
def Gr (w w' : World) : Prop := Below w.heap.size w w' ∧ w.drawn ≤ w'.drawn
theorem Gr.grown {w w' : World} (h : Gr w w') : ∃ q os, w' = Go.Sort.grow (w.drewN q) os := by
  obtain ⟨hb, hd⟩ := h
  refine ⟨w'.drawn - w.drawn, w'.heap.extract w.heap.size w'.heap.size, ?_⟩
  obtain ⟨hp, tp, dr, os, out⟩ := w'
  have e1 : os = w.os := hb.os
  have e2 : tp = w.tape := hb.tape
  have e3 : out = w.output := hb.output
  have hs : w.heap.size ≤ hp.size := hb.size
  have hbl : ∀ k, k < w.heap.size → hp[k]? = w.heap[k]? := hb.block
  have hd' : w.drawn ≤ dr := hd
  subst e1
  subst e2
  subst e3
  unfold Go.Sort.grow World.drewN
  have hh : hp = w.heap ++ hp.extract w.heap.size hp.size := by
    apply Array.ext_getElem?
    intro i
    by_cases hi : i < w.heap.size
    · rw [Array.getElem?_append_left hi]
      exact hbl i hi
    · rw [Array.getElem?_append_right (by omega), Array.getElem?_extract]
      by_cases h2 : i < hp.size
      · rw [if_pos (by omega), show w.heap.size + (i - w.heap.size) = i by omega]
      · rw [if_neg (by omega), Array.getElem?_eq_none (by omega)]
  have hdd : dr = w.drawn + (dr - w.drawn) := by omega
  simp only
  rw [← hh, ← hdd]

theorem owords_gr (k p n : ByteArray) (w : World) :
    Calls Tryd.prog 33 #[.agg #[.string k, .string p, .string n]] w fun e w' => e = .returned (.agg #[.string k, .string p, .string n]) ∧ Below w.heap.size w w' ∧ w.drawn ≤ w'.drawn := by
  go_enter Tryd.func33, Tryd.ntmps33
  go_wp2_with fail
  obtain ⟨dd, hu, hdd⟩ := Tryd.structI
  refine ret_read (w.heap.size + 1) #[.string k, .string p, .string n] Tryd.results33 rfl rfl hdd hu Tryd.sizeI (fun i hi => ?_) ?_
  · rw [show w.heap.size + 1 = (w.alloc (.cells #[.string k, .string p, .string n] 29)).heap.size by simp, World.cell?_alloc_new]
    exact Array.getElem?_eq_getElem hi
  · exact ⟨rfl, ((Below.refl _ _).alloc (Nat.le_refl _) _).alloc (by simp) _, by simp⟩

set_option maxRecDepth 100000 in
theorem oCompare_gr (k p n k' p' n' : ByteArray) (w : World) (hw : RankTab w) :
    Calls Tryd.prog 18 #[.agg #[.string k, .string p, .string n], .agg #[.string k', .string p', .string n']] w fun e w' => e = .returned (.int .i64 (cmpO k p n k' p' n')) ∧ Gr w w' := by
  have IX := Lib.hid (three_index k p n)
  have C1 := Lib.hid (cmpO_first (k := k) (p := p) (n := n) (k' := k') (p' := p') (n' := n'))
  have C2 := Lib.hid (fun h j hj => cmpO_at (k := k) (p := p) (n := n) (k' := k') (p' := p') (n' := n') h (j := j) hj)
  have C3 := Lib.hid (cmpO_none (k := k) (p := p) (n := n) (k' := k') (p' := p') (n' := n'))
  have RT := Lib.hid hw
  have hlt := hw.lt
  have hb1 := (Below.refl w.heap.size w).alloc (Nat.le_refl _) (.cells #[.string k, .string p, .string n] 29)
  have hb2 := hb1.alloc hb1.size (.cells #[.string k', .string p', .string n'] 29)
  have e1 : (w.alloc (.cells #[.string k, .string p, .string n] 29)).heap.size = w.heap.size + 1 := by simp
  have x0 : ((w.alloc (.cells #[.string k, .string p, .string n] 29)).alloc (.cells #[.string k', .string p', .string n'] 29)).cell? ⟨w.heap.size, 0, none⟩ = some (.string k) := by
    rw [((Below.refl (w.alloc (.cells #[.string k, .string p, .string n] 29)).heap.size _).alloc (Nat.le_refl _) _).cell (p := ⟨w.heap.size, 0, none⟩) (by simp), World.cell?_alloc_new]; rfl
  have x1 : ((w.alloc (.cells #[.string k, .string p, .string n] 29)).alloc (.cells #[.string k', .string p', .string n'] 29)).cell? ⟨w.heap.size, 1, none⟩ = some (.string p) := by
    rw [((Below.refl (w.alloc (.cells #[.string k, .string p, .string n] 29)).heap.size _).alloc (Nat.le_refl _) _).cell (p := ⟨w.heap.size, 1, none⟩) (by simp), World.cell?_alloc_new]; rfl
  have x2 : ((w.alloc (.cells #[.string k, .string p, .string n] 29)).alloc (.cells #[.string k', .string p', .string n'] 29)).cell? ⟨w.heap.size, 2, none⟩ = some (.string n) := by
    rw [((Below.refl (w.alloc (.cells #[.string k, .string p, .string n] 29)).heap.size _).alloc (Nat.le_refl _) _).cell (p := ⟨w.heap.size, 2, none⟩) (by simp), World.cell?_alloc_new]; rfl
  have y0 : ((w.alloc (.cells #[.string k, .string p, .string n] 29)).alloc (.cells #[.string k', .string p', .string n'] 29)).cell? ⟨w.heap.size + 1, 0, none⟩ = some (.string k') := by rw [← e1, World.cell?_alloc_new]; rfl
  have y1 : ((w.alloc (.cells #[.string k, .string p, .string n] 29)).alloc (.cells #[.string k', .string p', .string n'] 29)).cell? ⟨w.heap.size + 1, 1, none⟩ = some (.string p') := by rw [← e1, World.cell?_alloc_new]; rfl
  have y2 : ((w.alloc (.cells #[.string k, .string p, .string n] 29)).alloc (.cells #[.string k', .string p', .string n'] 29)).cell? ⟨w.heap.size + 1, 2, none⟩ = some (.string n') := by rw [← e1, World.cell?_alloc_new]; rfl
  have hs2 : ((w.alloc (.cells #[.string k, .string p, .string n] 29)).alloc (.cells #[.string k', .string p', .string n'] 29)).heap.size = w.heap.size + 2 := by simp
  have hd2 : w.drawn ≤ ((w.alloc (.cells #[.string k, .string p, .string n] 29)).alloc (.cells #[.string k', .string p', .string n'] 29)).drawn := by simp
  clear e1 hb1
  go_enter Tryd.func18, Tryd.ntmps18
  go_upto_region 1 with fail
  generalize (w.alloc (.cells #[.string k, .string p, .string n] 29)).alloc (.cells #[.string k', .string p', .string n'] 29) = v at *
  have HR : Hid (∀ v', Below v.heap.size v v' → RankTab v') := fun v' h => (RT.out.later hb2 hlt).later h (Nat.lt_of_lt_of_le hlt hb2.size)
  have HB2 := Lib.hid hb2
  have HS2 := Lib.hid hs2
  have HD2 := Lib.hid hd2
  clear hb2 hs2 hd2 hw RT hlt
  have XA : Hid (∀ v', Below v.heap.size v v' → v'.cell? ⟨w.heap.size, 0, none⟩ = some (.string k) ∧ v'.cell? ⟨w.heap.size, 1, none⟩ = some (.string p) ∧ v'.cell? ⟨w.heap.size, 2, none⟩ = some (.string n) ∧ v'.cell? ⟨w.heap.size + 1, 0, none⟩ = some (.string k') ∧ v'.cell? ⟨w.heap.size + 1, 1, none⟩ = some (.string p') ∧ v'.cell? ⟨w.heap.size + 1, 2, none⟩ = some (.string n')) := fun v' h =>
    ⟨cells_frame h x0, cells_frame h x1, cells_frame h x2, cells_frame h y0, cells_frame h y1, cells_frame h y2⟩
  clear x0 x1 x2 y0 y1 y2
  obtain ⟨r, hrr⟩ : ∃ r, r = cmpI (rankO k) (rankO k') := ⟨_, rfl⟩
  rw [← hrr] at C1 C2 C3
  have HRR : Hid (Value.int .i64 (cmpI (rankO k) (rankO k')) = .int .i64 r) := by show _ = _; rw [hrr]
  clear hrr
  refine wp_region_specsJ v 8 (fun i => match i with | 0 => 10 | 1 => 11 | 2 => 12 | 3 => 13 | 4 => 14 | 5 => 15 | 6 => 16 | 7 => 5 | _ => 0) (fun i x wx => match i with | 0 => x = .pointer (some ⟨w.heap.size, 0, none⟩) | 1 => x = .string k | 2 => x = .int .i64 (rankO k) | 3 => x = .pointer (some ⟨w.heap.size + 1, 0, none⟩) | 4 => x = .string k' | 5 => x = .int .i64 (rankO k') | 6 => x = .int .i64 r | 7 => x = .int .i64 r | _ => True) (fun wx => w.drawn ≤ wx.drawn) (Nat.le_succ_of_le HD2.out) (by kernel_rfl) (by kernel_rfl) ?s1 (Below.refl _ _) ?s2 ?s3 ?s4 ?s5
  case s1 => intro i hi; rcases (by omega : i = 0 ∨ i = 1 ∨ i = 2 ∨ i = 3 ∨ i = 4 ∨ i = 5 ∨ i = 6 ∨ i = 7) with rfl | rfl | rfl | rfl | rfl | rfl | rfl | rfl <;> exact Nat.lt_of_lt_of_le (by decide : _ < 37) (Nat.le_refl 37)
  case s2 =>
    intro i x w1 w2 hb hU
    match i, hU with
    | 0, h | 1, h | 2, h | 3, h | 4, h | 5, h | 6, h | 7, h => exact h
    | (n + 8), _ => trivial
  case s3 =>
    intro i o g b ho hg x w hu
    have hi : i < 8 := (Array.getElem?_eq_some_iff.1 ho).1
    rcases (by omega : i = 0 ∨ i = 1 ∨ i = 2 ∨ i = 3 ∨ i = 4 ∨ i = 5 ∨ i = 6 ∨ i = 7) with rfl | rfl | rfl | rfl | rfl | rfl | rfl | rfl
    · simp at ho; subst ho; cases hg
    · simp at ho; subst ho; cases hg
    · simp at ho; subst ho; cases hg
    · simp at ho; subst ho; cases hg
    · simp at ho; subst ho; cases hg
    · simp at ho; subst ho; cases hg
    · simp at ho; subst ho; cases hg
    · simp at ho; subst ho; cases hg
  case s4 =>
    intro i o ac wb K' ho hi hA hB hJ hdep hK
    have sv2 : ac.tmps[2]?.getD undef = .pointer (some ⟨w.heap.size, 0, none⟩) := hA.sl (t := 2) (by decide)
    have sv3 : ac.tmps[3]?.getD undef = .pointer (some ⟨w.heap.size + 1, 0, none⟩) := hA.sl (t := 3) (by decide)
    obtain ⟨xa0, xa1, xa2, xb0, xb1, xb2⟩ := XA.out wb hB
    rcases (by omega : i = 0 ∨ i = 1 ∨ i = 2 ∨ i = 3 ∨ i = 4 ∨ i = 5 ∨ i = 6 ∨ i = 7) with rfl | rfl | rfl | rfl | rfl | rfl | rfl | rfl
    · simp at ho
      subst ho
      clear hdep hA
      go_simp
      exact hK _ wb (Below.refl _ _) hJ rfl
    · simp at ho
      subst ho
      have y0 : ac.tmps[10]?.getD undef = .pointer (some ⟨w.heap.size, 0, none⟩) := hdep { on := 0, ground := .data } (by simp) rfl
      clear hdep hA
      go_simp
      exact hK _ wb (Below.refl _ _) hJ rfl
    · simp at ho
      subst ho
      have y1 : ac.tmps[11]?.getD undef = .string k := hdep { on := 1, ground := .data } (by simp) rfl
      clear hdep hA
      go_simp
      refine (oRank_any k wb (HR.out wb hB)).mono ?_
      rintro e w5 ⟨rfl, rfl⟩
      exact hK _ _ (Below.refl _ _) hJ rfl
    · simp at ho
      subst ho
      clear hdep hA
      go_simp
      exact hK _ wb (Below.refl _ _) hJ rfl
    · simp at ho
      subst ho
      have y3 : ac.tmps[13]?.getD undef = .pointer (some ⟨w.heap.size + 1, 0, none⟩) := hdep { on := 3, ground := .data } (by simp) rfl
      clear hdep hA
      go_simp
      exact hK _ wb (Below.refl _ _) hJ rfl
    · simp at ho
      subst ho
      have y4 : ac.tmps[14]?.getD undef = .string k' := hdep { on := 4, ground := .data } (by simp) rfl
      clear hdep hA
      go_simp
      refine (oRank_any k' wb (HR.out wb hB)).mono ?_
      rintro e w5 ⟨rfl, rfl⟩
      exact hK _ _ (Below.refl _ _) hJ rfl
    · simp at ho
      subst ho
      have y2 : ac.tmps[12]?.getD undef = .int .i64 (rankO k) := hdep { on := 2, ground := .data } (by simp) rfl
      have y5 : ac.tmps[15]?.getD undef = .int .i64 (rankO k') := hdep { on := 5, ground := .data } (by simp) rfl
      clear hdep hA
      go_simp
      refine (cmpInt_any _ _ wb).mono ?_
      rintro e w5 ⟨rfl, rfl⟩
      exact hK _ _ (Below.refl _ _) hJ HRR.out
    · simp at ho
      subst ho
      have y6 : ac.tmps[16]?.getD undef = .int .i64 r := hdep { on := 6, ground := .data } (by simp) rfl
      clear hdep hA
      go_simp
      exact hK _ wb (Below.refl _ _) hJ rfl
  case s5 =>
    intro ac wn hA hB hJ hU
    have hs : slots 8 (fun i => match i with | 0 => 10 | 1 => 11 | 2 => 12 | 3 => 13 | 4 => 14 | 5 => 15 | 6 => 16 | 7 => 5 | _ => 0) = [10, 11, 12, 13, 14, 15, 16, 5] := by rfl
    rw [hs] at hA
    have hac := hA.act (fun t ht => by
      have h8 : t = 10 ∨ t = 11 ∨ t = 12 ∨ t = 13 ∨ t = 14 ∨ t = 15 ∨ t = 16 ∨ t = 5 := by simpa using ht
      rcases h8 with rfl | rfl | rfl | rfl | rfl | rfl | rfl | rfl <;> exact Nat.lt_of_lt_of_le (by decide : _ < 37) (Nat.le_refl 37))
    rw [List.foldl_cons, List.foldl_cons, List.foldl_cons, List.foldl_cons, List.foldl_cons, List.foldl_cons, List.foldl_cons, List.foldl_cons, List.foldl_nil] at hac
    have HBV := Lib.hid hB
    have HDN := Lib.hid hJ
    clear hJ
    have HBN := Lib.hid (bstep HB2.out hB HB2.out.size)
    have z5 : sl ac 5 = .int .i64 r := hU 7 (by omega)
    clear hU hB hs
    generalize sl ac 10 = x10 at hac z5
    generalize sl ac 11 = x11 at hac z5
    generalize sl ac 12 = x12 at hac z5
    generalize sl ac 13 = x13 at hac z5
    generalize sl ac 14 = x14 at hac z5
    generalize sl ac 15 = x15 at hac z5
    generalize sl ac 16 = x16 at hac z5
    generalize sl ac 5 = x5 at hac z5
    clear hA
    subst z5
    subst hac
    simp only [Act.put, List.setIfInBounds_toArray, List.set_cons_succ, List.set_cons_zero]
    have XN : Hid (∀ v', Below wn.heap.size wn v' → v'.cell? ⟨w.heap.size, 0, none⟩ = some (.string k) ∧ v'.cell? ⟨w.heap.size, 1, none⟩ = some (.string p) ∧ v'.cell? ⟨w.heap.size, 2, none⟩ = some (.string n) ∧ v'.cell? ⟨w.heap.size + 1, 0, none⟩ = some (.string k') ∧ v'.cell? ⟨w.heap.size + 1, 1, none⟩ = some (.string p') ∧ v'.cell? ⟨w.heap.size + 1, 2, none⟩ = some (.string n')) := fun v' h => XA.out v' (bstep HBV.out h HBV.out.size)
    by_cases hr0 : r = 0
    case neg =>
      have HRES := Lib.hid (C1.out hr0)
      have hq : (r != 0) = true := by simp [hr0]
      clear C1 C2 C3 hr0
      go_wp2_with fail
      go_ret
      exact ⟨ret_int HRES.out.symm, HBN.out, HDN.out⟩
    case pos =>
      subst hr0
      have C2' := Lib.hid (C2.out rfl)
      have C3' := Lib.hid (C3.out rfl)
      clear C1 C2 C3
      obtain ⟨xa0, xa1, xa2, xb0, xb1, xb2⟩ := XN.out wn (Below.refl _ _)
      go_upto_region 4 with fail
      go_upto_region 5 with (go_at_call 33; refine (owords_gr k' p' n' _).mono ?_; rintro e w4 ⟨rfl, hb4, hd4⟩; have HB4 := Lib.hid hb4; have HD4 := Lib.hid (Nat.le_trans HDN.out hd4); clear hb4 hd4)
      have hb5 := HB4.out.alloc HB4.out.size (.cells #[.string k', .string p', .string n'] 65)
      have y0 : (w4.alloc (.cells #[.string k', .string p', .string n'] 65)).cell? ⟨w4.heap.size, 0, none⟩ = some (.string k') := by rw [World.cell?_alloc_new]; rfl
      have y1 : (w4.alloc (.cells #[.string k', .string p', .string n'] 65)).cell? ⟨w4.heap.size, 1, none⟩ = some (.string p') := by rw [World.cell?_alloc_new]; rfl
      have y2 : (w4.alloc (.cells #[.string k', .string p', .string n'] 65)).cell? ⟨w4.heap.size, 2, none⟩ = some (.string n') := by rw [World.cell?_alloc_new]; rfl
      have hd5 : w.drawn ≤ (w4.alloc (.cells #[.string k', .string p', .string n'] 65)).drawn := by simpa using HD4.out
      have hs5 : w4.heap.size < (w4.alloc (.cells #[.string k', .string p', .string n'] 65)).heap.size := by simp
      obtain ⟨xc0, xc1, xc2, -, -, -⟩ := XN.out _ hb5
      clear xa0 xa1 xa2 xb0 xb1 xb2
      generalize w4.alloc (.cells #[.string k', .string p', .string n'] 65) = v5 at *
      have HB5 := Lib.hid (bstep HBN.out hb5 HBN.out.size)
      have HD5 := Lib.hid hd5
      clear hb5 hd5
      have HY : Hid (∀ wx, Below v5.heap.size v5 wx → ∀ j, j < 3 → wx.cell? ⟨w4.heap.size, j, none⟩ = some (.string (wAt k' p' n' j))) := fun wx h j hj => by
        rcases (by omega : j = 0 ∨ j = 1 ∨ j = 2) with rfl | rfl | rfl
        · exact cells_frame h y0
        · exact cells_frame h y1
        · exact cells_frame h y2
      clear y0 y1 y2
      go_wp2_with (go_at_call 33; refine (owords_gr k p n _).mono ?_; rintro e w6 ⟨rfl, hb6, hd6⟩; have HB6 := Lib.hid hb6; have HD6 := Lib.hid (Nat.le_trans HD5.out hd6); clear hb6 hd6)
      clear xc0 xc1 xc2
      generalize (#[.string k, .string p, .string n] : Array Value) = A at *
      go_loopw [24] (fun v24 wr => ∃ (j : Nat), j ≤ 3 ∧ v24 = .int .i64 j ∧ Hid (∀ i, i < j → cmpS (wAt k p n i) (wAt k' p' n' i) = 0) ∧ wr = w6) (fun v24 _ => 3 - (intOf v24).toNat)
      case atStart => exact ⟨0, by omega, rfl, fun i hi => absurd hi (Nat.not_lt_zero i), rfl⟩
      case round =>
        obtain ⟨j, hj, rfl, hnn, rfl⟩ := hrel
        by_cases hj3 : j < 3
        · have ix : ∀ w, (Instr.index 65 (.agg A) (.int .i64 j)).run Tryd.prog w = .ok (.string (wAt k p n j)) w := fun w => IX.out j hj3 w
          have hl : decide ((j : Int) < 3) = true := by simp; omega
          have hy := HY.out _ HB6.out j hj3
          have HN2 := Lib.hid (fun h => C2'.out j hj3 hnn.out h)
          have HS : Hid (cmpS (wAt k p n j) (wAt k' p' n' j) = 0 → ∀ i, i < j + 1 → cmpS (wAt k p n i) (wAt k' p' n' i) = 0) := fun h i hi => by
            by_cases e : i = j
            · rw [e]; exact h
            · exact hnn.out i (by omega)
          clear hnn IX C2' C3'
          generalize wAt k p n j = s at ix HN2 HS
          generalize wAt k' p' n' j = s' at hy HN2 HS
          have CS := Lib.hid (cmpStr_any s s')
          generalize cmpS s s' = r at CS HN2 HS
          by_cases h0 : r = 0
          · subst h0
            have HS2 := Lib.hid (HS.out rfl)
            go_wp2_with (go_at_call 38; refine (CS.out _).mono ?_; rintro e w7 ⟨rfl, rfl⟩)
            go_roundw
            case rel => exact ⟨j + 1, by omega, by go_num, HS2, trivial⟩
            case measure => simp [intOf]; omega
          · have HR := Lib.hid (HN2.out h0)
            have hq : (r != 0) = true := by simp [h0]
            clear h0 HN2 HS
            go_wp2_with (go_at_call 38; refine (CS.out _).mono ?_; rintro e w7 ⟨rfl, rfl⟩)
            go_ret
            exact ⟨ret_int HR.out.symm, bstep HB5.out HB6.out HB5.out.size, HD6.out⟩
        · obtain rfl : j = 3 := by omega
          have HR := Lib.hid (C3'.out hnn.out)
          clear hnn IX C2' C3'
          go_wp2_with fail
          go_ret
          exact ⟨ret_int HR.out.symm, bstep HB5.out HB6.out HB5.out.size, HD6.out⟩

end Go.Proofs.YtbmlmcoepmbelaaDoor
