/-
  PathDrops: the law's contract.
-/
import Derived.Test.YtfmlhdkodnbfaaaSpecsLM
import Derived.Test.YtfmlhdkodnbfaaaGood
set_option linter.unusedVariables false
set_option linter.unusedSimpArgs false
namespace Go.Proofs.Ytfmlhdkodnbfaaa
open Go.RowKit Go.Sort

def isVal (cs : Array Value) (x : Value) (_ : World) : Prop := x = .agg cs
theorem isVal_later (cs : Array Value) : ∀ x w w', Below w.heap.size w w' → isVal cs x w → isVal cs x w' := fun _ _ _ _ h => h
def isAny (v : Value) (x : Value) (_ : World) : Prop := x = v
theorem isAny_later (v : Value) : ∀ x w w', Below w.heap.size w w' → isAny v x w → isAny v x w' := fun _ _ _ _ h => h
theorem row_box6 {w : World} {g : Nat} {c0 c1 c2 c3 c4 c5 : Value} (h : Row w g 0 #[c0, c1, c2, c3, c4, c5]) : Box6 w g #[c0, c1, c2, c3, c4, c5] := fun j hj => by
  have := h j hj
  rw [Nat.zero_add] at this
  rw [this]
  exact (Array.getElem?_eq_getElem _).symm
theorem lies_len {w : World} {R : Nat → Prop} {t : T} {a0 : Int} {a1 : Bool} {a2 : Int} {a3 : ByteArray} {a4 : Option Addr} {a4l a4c : Nat} {a5 : Option Addr} {a5l a5c : Nat} (h : Lies w R t #[.int .i64 a0, .bool a1, .int .i64 a2, .string a3, .slice a4 a4l a4c, .slice a5 a5l a5c]) : t.kind = a0 ∧ t.map.length = a5l := by cases h; exact ⟨rfl, rfl⟩

set_option maxRecDepth 100000 in
set_option maxHeartbeats 8000000 in
theorem pathDrops_any {w : World} {R : Nat → Prop} {t : T} {cs : Array Value} {n : Int} (h : Lies w R t cs) (hn0 : 0 ≤ n) (hn1 : n < 256) :
    Calls Try.prog 4 #[.agg cs, .int .u8 n] w fun e w' => e = .returned (.bool true) ∧ Below w.heap.size w w' := by
  have H := Lib.hid h
  obtain ⟨a0, a1, a2, a3, a4, a4l, a4c, a5, a5l, a5c, rfl⟩ := h.six
  obtain ⟨hkind, hmlen⟩ := lies_len H.out
  have hb0 := (Below.refl w.heap.size w).alloc (Nat.le_refl _) (.cells #[.int .i64 a0, .bool a1, .int .i64 a2, .string a3, .slice a4 a4l a4c, .slice a5 a5l a5c] 25)
  have hsz : (w.alloc (.cells #[.int .i64 a0, .bool a1, .int .i64 a2, .string a3, .slice a4 a4l a4c, .slice a5 a5l a5c] 25)).heap.size = w.heap.size + 1 := by simp
  have c1 := Box6.new w #[.int .i64 a0, .bool a1, .int .i64 a2, .string a3, .slice a4 a4l a4c, .slice a5 a5l a5c] 25
  clear h
  go_enter Try.func4, Try.ntmps4
  go_upto_region 1 with fail
  generalize w.alloc (.cells #[.int .i64 a0, .bool a1, .int .i64 a2, .string a3, .slice a4 a4l a4c, .slice a5 a5l a5c] 25) = v at hb0 hsz c1 ⊢
  have HV := Lib.hid hb0
  have C1 := Lib.hid c1
  have hv2 : w.heap.size + 1 ≤ v.heap.size := by omega
  obtain ⟨x0, x1, x2, x3, x4, x5⟩ := c1.six
  have hr := right_any (one_value (H.out.later hb0)) _ (Below.refl _ _)
  have HR := Lib.hid hr
  have hal := (Below.refl v.heap.size v).alloc (Nat.le_refl _) (.cells #[.int .i64 a0, .bool a1, .int .i64 a2, .string a3, .slice a4 a4l a4c, .slice a5 a5l a5c] 25)
  have HAL := Lib.hid hal
  clear hb0 hsz c1 hr hal
  have AW : Hid (∀ w1, Below v.heap.size v w1 → Calls Try.prog 7 #[] w1 fun e w' => e = .returned (.bool true) ∧ Below v.heap.size v w') := fun w1 hb => (l2awake_any w1).mono fun e w' ⟨he, hw⟩ => ⟨he, bstep hb hw hb.size⟩
  have GP : Hid (∀ w1, Below v.heap.size v w1 → Box6 w1 w.heap.size #[.int .i64 a0, .bool a1, .int .i64 a2, .string a3, .slice a4 a4l a4c, .slice a5 a5l a5c]) := fun w1 hb => C1.out.later hb (by omega)
  cases hg : [t].all T.good with
  | false =>
    rw [hg] at HR
    clear hg hkind hmlen
    go_wp2_with (first
      | (go_at_call 6; refine HR.out.mono ?_; rintro e w2 ⟨rfl, hb2⟩; have HB2 := Lib.hid (bstep HAL.out hb2 HAL.out.size); clear hb2)
      | (go_at_call 7; refine (AW.out _ HB2.out).mono ?_; rintro e w3 ⟨rfl, hb3⟩))
    go_ret
    exact ⟨rfl, bstep HV.out hb3 HV.out.size⟩
  | true =>
    have hgt : t.good = true := by simpa using hg
    rw [hg] at HR
    have HP := Lib.hid (good_parts hgt)
    have HSZ : Hid (t.size ≤ 6000) := by
      have h := hgt
      unfold T.good at h
      simp only [Bool.and_eq_true] at h
      exact T.light_size h.1
    clear hg hgt
    by_cases hk5 : a0 = 5
    case neg =>
      have f1 : (a0 != 5) = true := by simp [hk5]
      clear hk5 hkind hmlen
      go_wp2_with (first
        | (go_at_call 6; refine HR.out.mono ?_; rintro e w2 ⟨rfl, hb2⟩; have HB2 := Lib.hid (bstep HAL.out hb2 HAL.out.size); clear hb2; obtain ⟨x0, x1, x2, x3, x4, x5⟩ := (GP.out _ HB2.out).six)
        | (go_at_call 7; refine (AW.out _ HB2.out).mono ?_; rintro e w3 ⟨rfl, hb3⟩))
      go_ret
      exact ⟨rfl, bstep HV.out hb3 HV.out.size⟩
    case pos =>
      subst hk5
      by_cases hm0 : a5l = 0
      case pos =>
        have f2 : ((a5l : Int) == 0) = true := by rw [hm0]; rfl
        clear hm0 hkind hmlen
        go_wp2_with (first
          | (go_at_call 6; refine HR.out.mono ?_; rintro e w2 ⟨rfl, hb2⟩; have HB2 := Lib.hid (bstep HAL.out hb2 HAL.out.size); clear hb2; obtain ⟨x0, x1, x2, x3, x4, x5⟩ := (GP.out _ HB2.out).six)
          | (go_at_call 7; refine (AW.out _ HB2.out).mono ?_; rintro e w3 ⟨rfl, hb3⟩))
        go_ret
        exact ⟨rfl, bstep HV.out hb3 HV.out.size⟩
      case neg =>
        have f2 : ((a5l : Int) == 0) = false := by rw [beq_eq_false_iff_ne]; omega
        have HM : Hid (t.map ≠ []) := fun e => hm0 (by rw [← hmlen, e]; rfl)
        have LE := Lib.hid (fun w1 (hw1 : Below w.heap.size w w1) => leaves_any H.out HP.out (by have := HSZ.out; omega) w1 hw1)
        have HN1 : Hid (0 < (leavesT t).length ∧ (leavesT t).length ≤ 6000) := ⟨List.length_pos_iff.2 (leaves_ne t), Nat.le_trans (leaves_size t) HSZ.out⟩
        have LF : Hid (∀ q ∈ leavesT t, q.1 ≠ [] ∧ q.1.length ≤ 6000 ∧ atL q.1 t = some q.2) := fun q hq => ⟨leaf_ne HM.out hq, Nat.le_trans (leaf_len t q hq) HSZ.out, at_leaf t HP.out q hq⟩
        have LI : Hid (∀ i j (hi : i < (leavesT t).length) (hj : j < (leavesT t).length), i ≠ j → (leavesT t)[i].1 ≠ (leavesT t)[j].1 ∧ beginsB (leavesT t)[i].1 (leavesT t)[j].1 = false) := fun i j hi hj hij => ⟨leaves_other HP.out hi hj hij, leaves_idx HP.out hi hj hij⟩
        have LD : Hid (∀ q ∈ leavesT t, pruneAt q.1 t = pruneL q.1 t ∧ dropAt q.1 t = dropL q.1 t) := fun q hq => drops_facts HP.out (show (q.1, q.2) ∈ leavesT t from hq) (leaf_ne HM.out hq)
        have LO : Hid (∀ q ∈ leavesT t, ∀ q2 ∈ leavesT t, q2.1 ≠ q.1 → atL q2.1 (pruneL q.1 t) = some q2.2) := fun q hq q2 hq2 hne => at_prune_other q.1 t q.2 HP.out hq (leaf_ne HM.out hq) q2 hq2 hne
        have LW : Hid (∀ q ∈ leavesT t, ∀ i, 1 ≤ i → i < q.1.length → ∀ u, atL (q.1.take i) (pruneL q.1 t) = some u → u.map ≠ []) := fun q hq => prune_ways q.1 t q.2 HP.out hq
        have LX : Hid (∀ q ∈ leavesT t, ∀ i, 1 ≤ i → i < q.1.length → ∃ u, atL (q.1.take i) (dropL q.1 t) = some u ∧ u.kind = 5) := fun q hq => drop_ways q.1 t (by rw [at_leaf t HP.out q hq]; rfl)
        generalize leavesT t = ls at LE HN1 LF LI LD LO LW LX
        clear hm0 hkind hmlen
        go_upto_region 4 with (first
          | (go_at_call 6; refine HR.out.mono ?_; rintro e w2 ⟨rfl, hb2⟩; have HB2 := Lib.hid (bstep HAL.out hb2 HAL.out.size); clear hb2; obtain ⟨x0, x1, x2, x3, x4, x5⟩ := (GP.out _ HB2.out).six)
          | (go_at_call 8; refine (LE.out _ (bstep HV.out HB2.out HV.out.size)).mono ?_; rintro e w4 ⟨a9, c9, K, rfl, hS, hwh, hb4⟩; have HS := Lib.hid hS; have HWH := Lib.hid hwh; have HB4 := Lib.hid (bstep HB2.out hb4 HB2.out.size); clear hS hwh hb4))
        clear x0 x1 x2 x3 x4 x5 HB2 LE
        obtain ⟨hnp, hnm⟩ := HN1.out
        have f3 : ((ls.length : Int) == 0) = false := by rw [beq_eq_false_iff_ne]; omega
        obtain ⟨kk, hkk⟩ : ∃ kk : Nat, kk = n.toNat % ls.length := ⟨_, rfl⟩
        have hkl : kk < ls.length := by rw [hkk]; exact Nat.mod_lt _ hnp
        have hkk2 : n % (ls.length : Int) = (kk : Int) := by
          rw [hkk]
          have : ((n.toNat : Nat) : Int) = n := Int.toNat_of_nonneg hn0
          rw [Int.natCast_emod, this]
        clear hkk
        obtain ⟨lb, lo, qa, qc, r0, r1, r2, r3, r4, r4l, r4c, r5, r5l, r5c, ha9, e0, e1, e2, e3, e4, e5, e6, hSS, hLr⟩ := HS.out.leaf HWH.out (Below.refl _ _) hkl
        subst ha9
        have hmem : ls[kk] ∈ ls := List.getElem_mem hkl
        obtain ⟨hptn, hptl, hpta⟩ := LF.out _ hmem
        obtain ⟨hpe, hde⟩ := LD.out _ hmem
        obtain ⟨pt, hpt⟩ : ∃ pt, pt = ls[kk].1 := ⟨_, rfl⟩
        rw [← hpt] at hptn hptl hpta hpe hde hSS
        replace e0 : w4.cell? ⟨lb, lo + kk * 7, none⟩ = some (.slice qa pt.length qc) := by rw [hpt]; exact e0
        have QR0 : ∀ w', Below w4.heap.size w4 w' → Calls Try.prog 13 #[.agg #[.int .i64 5, .bool a1, .int .i64 a2, .string a3, .slice a4 a4l a4c, .slice a5 a5l a5c], .slice qa pt.length qc] w' (PutIn w' (pruneAt pt t)) := fun w' hw' => pPrune_any (H.out.later (bstep HV.out HB4.out HV.out.size)) hSS (by omega) (by have := HSZ.out; omega) w' hw'
        have DR0 : ∀ w', Below w4.heap.size w4 w' → Calls Try.prog 14 #[.agg #[.int .i64 5, .bool a1, .int .i64 a2, .string a3, .slice a4 a4l a4c, .slice a5 a5l a5c], .slice qa pt.length qc] w' (PutIn w' (dropAt pt t)) := fun w' hw' => pDrop_any (H.out.later (bstep HV.out HB4.out HV.out.size)) hSS (by omega) (by have := HSZ.out; omega) w' hw'
        have GP0 : atL pt (pruneAt pt t) = none := at_pruneAt pt t hptn
        have GD0 : atL pt (dropAt pt t) = none := at_dropAt pt t hptn
        have GPO : ∀ j (hj : j < ls.length), j ≠ kk → atL ls[j].1 (pruneAt pt t) = some ls[j].2 := fun j hj hne => by
          rw [hpe, hpt]
          exact LO.out _ hmem _ (List.getElem_mem hj) (LI.out j kk hj hkl hne).1
        have GDO : ∀ j (hj : j < ls.length), j ≠ kk → atL ls[j].1 (dropAt pt t) = some ls[j].2 := fun j hj hne => by
          rw [hde, hpt, at_drop_other _ _ _ (LI.out kk j hkl hj (Ne.symm hne)).2 (LI.out j kk hj hkl hne).2]
          exact (LF.out _ (List.getElem_mem hj)).2.2
        have GPW : ∀ i, 1 ≤ i → i < pt.length → ∀ u, atL (pt.take i) (pruneAt pt t) = some u → u.map ≠ [] := by rw [hpe, hpt]; exact LW.out _ hmem
        have GDW : ∀ i, 1 ≤ i → i < pt.length → ∃ u, atL (pt.take i) (dropAt pt t) = some u ∧ u.kind = 5 := by rw [hde, hpt]; exact LX.out _ hmem
        have hpt1 : 1 ≤ pt.length := List.length_pos_iff.2 hptn
        have hptk : pt = ls[kk].1 := hpt
        generalize pruneAt pt t = P at QR0 GP0 GPO GPW
        generalize dropAt pt t = D at DR0 GD0 GDO GDW
        have QR := Lib.hid QR0
        have DR := Lib.hid DR0
        have GPN := Lib.hid GP0
        have GDN := Lib.hid GD0
        have GPJ := Lib.hid GPO
        have GDJ := Lib.hid GDO
        have GPI := Lib.hid GPW
        have GDI := Lib.hid GDW
        have PTS := Lib.hid hSS
        have HPT := Lib.hid hptk
        clear QR0 DR0 GP0 GD0 GPO GDO GPW GDW hpe hde hpta hmem hpt hptk hSS hLr e1 e2 e3 e4 e5 e6 LF LI LD LO LW LX hptn
        go_upto_region 7 with fail
        go_upto_region 8 with fail
        have M0 := isVal_later #[.int .i64 5, .bool a1, .int .i64 a2, .string a3, .slice a4 a4l a4c, .slice a5 a5l a5c]
        have M1 := isAny_later (.slice qa pt.length qc)
        refine wp_region_keeps (fun a0 d ac wb => Agree [56, 57, 58, 59, 60, 61, 8, 9] a0 ac ∧ Hid (ac.tmps.size = 162) ∧ sl ac 2 = .pointer (some ⟨w.heap.size, 0, none⟩) ∧ sl ac 7 = .slice qa pt.length qc ∧ Phase false false w4 P D (isVal #[.int .i64 5, .bool a1, .int .i64 a2, .string a3, .slice a4 a4l a4c, .slice a5 a5l a5c]) (isAny (.slice qa pt.length qc)) (isVal #[.int .i64 5, .bool a1, .int .i64 a2, .string a3, .slice a4 a4l a4c, .slice a5 a5l a5c]) (isAny (.slice qa pt.length qc)) d (sl ac 56) (sl ac 57) (sl ac 58) (sl ac 59) (sl ac 60) (sl ac 61) (sl ac 8) (sl ac 9) wb) (by kernel_rfl) (by kernel_rfl) ?_ ?_ ?_
        · exact ⟨Agree.refl _ _, rfl, rfl, rfl, .inl ⟨rfl, rfl, by simp, by simp, by simp, by simp, by simp, by simp, Ph.start (Below.refl _ _).drew _ _ _ _, by simp, by simp⟩⟩
        · intro d ac wb i o K' ho hd hdep hI hK
          obtain ⟨hA, hz, s2, s7, hP⟩ := hI
          have hi : i < 10 := by simpa using (Array.getElem?_eq_some_iff.1 ho).1
          obtain ⟨x0, x1, x2, x3, x4, x5⟩ := (GP.out _ (bstep HB4.out hP.below HB4.out.size)).six
          have s2' : ac.tmps[2]?.getD undef = _ := s2
          have s7' : ac.tmps[7]?.getD undef = _ := s7
          rcases (by omega : i = 0 ∨ i = 1 ∨ i = 2 ∨ i = 3 ∨ i = 4 ∨ i = 5 ∨ i = 6 ∨ i = 7 ∨ i = 8 ∨ i = 9) with rfl | rfl | rfl | rfl | rfl | rfl | rfl | rfl | rfl | rfl
          · simp at ho
            subst ho
            refine wpOp_of rfl rfl ?_
            go_simp
            refine hK (ac.put (some 56) (.agg #[.int .i64 5, .bool a1, .int .i64 a2, .string a3, .slice a4 a4l a4c, .slice a5 a5l a5c])) wb ⟨hA.put (by simp) _, (size_put _ _ _).trans hz.out, (sl_ne (by decide) _).trans s2, (sl_ne (by decide) _).trans s7, ?_⟩
            simp only [sl_if (show (56 : Nat) < ac.tmps.size by have := hz.out; omega), if_true, Nat.reduceEqDiff, if_false, reduceIte]
            exact hP.at0 M0 M1 M0 M1 hd (Below.refl _ _) rfl
          · simp at ho
            subst ho
            refine wpOp_of rfl rfl ?_
            go_simp
            refine hK (ac.put (some 57) (.slice qa pt.length qc)) wb ⟨hA.put (by simp) _, (size_put _ _ _).trans hz.out, (sl_ne (by decide) _).trans s2, (sl_ne (by decide) _).trans s7, ?_⟩
            simp only [sl_if (show (57 : Nat) < ac.tmps.size by have := hz.out; omega), if_true, Nat.reduceEqDiff, if_false, reduceIte]
            exact hP.at1 M0 M1 M0 M1 hd (fun h => by cases h) (Below.refl _ _) rfl
          · simp at ho
            subst ho
            refine wpOp_of rfl rfl ?_
            have da := hdep { on := 0, ground := .data } (by simp) rfl
            have db := hdep { on := 1, ground := .data } (by simp) rfl
            have xa : ac.tmps[56]?.getD undef = .agg #[.int .i64 5, .bool a1, .int .i64 a2, .string a3, .slice a4 a4l a4c, .slice a5 a5l a5c] := (hP.early (by decide) hd).2.2.1 da
            have xb : ac.tmps[57]?.getD undef = .slice qa pt.length qc := (hP.early (by decide) hd).2.2.2.1 db
            go_simp
            refine (QR.out wb hP.below).mono ?_
            rintro e w' ⟨cs, rfl, hL, hb⟩
            refine hK (ac.put (some 58) (.agg cs)) w' ⟨hA.put (by simp) _, (size_put _ _ _).trans hz.out, (sl_ne (by decide) _).trans s2, (sl_ne (by decide) _).trans s7, ?_⟩
            simp only [sl_if (show (58 : Nat) < ac.tmps.size by have := hz.out; omega), if_true, Nat.reduceEqDiff, if_false, reduceIte]
            exact hP.at2 M0 M1 M0 M1 hd da db hL hb
          · simp at ho
            subst ho
            refine wpOp_of rfl rfl ?_
            go_simp
            refine hK (ac.put (some 59) (.agg #[.int .i64 5, .bool a1, .int .i64 a2, .string a3, .slice a4 a4l a4c, .slice a5 a5l a5c])) wb ⟨hA.put (by simp) _, (size_put _ _ _).trans hz.out, (sl_ne (by decide) _).trans s2, (sl_ne (by decide) _).trans s7, ?_⟩
            simp only [sl_if (show (59 : Nat) < ac.tmps.size by have := hz.out; omega), if_true, Nat.reduceEqDiff, if_false, reduceIte]
            exact hP.at3 M0 M1 M0 M1 hd (Below.refl _ _) rfl
          · simp at ho
            subst ho
            refine wpOp_of rfl rfl ?_
            go_simp
            refine hK (ac.put (some 60) (.slice qa pt.length qc)) wb ⟨hA.put (by simp) _, (size_put _ _ _).trans hz.out, (sl_ne (by decide) _).trans s2, (sl_ne (by decide) _).trans s7, ?_⟩
            simp only [sl_if (show (60 : Nat) < ac.tmps.size by have := hz.out; omega), if_true, Nat.reduceEqDiff, if_false, reduceIte]
            exact hP.at4 M0 M1 M0 M1 hd (fun h => by cases h) (Below.refl _ _) rfl
          · simp at ho
            subst ho
            refine wpOp_of rfl rfl ?_
            have da := hdep { on := 3, ground := .data } (by simp) rfl
            have db := hdep { on := 4, ground := .data } (by simp) rfl
            have xa : ac.tmps[59]?.getD undef = .agg #[.int .i64 5, .bool a1, .int .i64 a2, .string a3, .slice a4 a4l a4c, .slice a5 a5l a5c] := (hP.early (by decide) hd).2.2.2.2.1 da
            have xb : ac.tmps[60]?.getD undef = .slice qa pt.length qc := (hP.early (by decide) hd).2.2.2.2.2.1 db
            go_simp
            refine (DR.out wb hP.below).mono ?_
            rintro e w' ⟨cs, rfl, hL, hb⟩
            refine hK (ac.put (some 61) (.agg cs)) w' ⟨hA.put (by simp) _, (size_put _ _ _).trans hz.out, (sl_ne (by decide) _).trans s2, (sl_ne (by decide) _).trans s7, ?_⟩
            simp only [sl_if (show (61 : Nat) < ac.tmps.size by have := hz.out; omega), if_true, Nat.reduceEqDiff, if_false, reduceIte]
            exact hP.at5 M0 M1 M0 M1 hd da db hL hb
          · simp at ho
            subst ho
            refine wpOp_of rfl rfl ?_
            go_simp
            refine hK (ac.put (some 8) (.pointer (some ⟨wb.heap.size, 0, none⟩))) _ ⟨hA.put (by simp) _, (size_put _ _ _).trans hz.out, (sl_ne (by decide) _).trans s2, (sl_ne (by decide) _).trans s7, ?_⟩
            simp only [sl_if (show (8 : Nat) < ac.tmps.size by have := hz.out; omega), if_true, Nat.reduceEqDiff, if_false, reduceIte]
            exact hP.at6 M0 M1 M0 M1 hd
          · simp at ho
            subst ho
            refine wpOp_of rfl rfl ?_
            go_simp
            refine hK (ac.put (some 9) (.pointer (some ⟨wb.heap.size, 0, none⟩))) _ ⟨hA.put (by simp) _, (size_put _ _ _).trans hz.out, (sl_ne (by decide) _).trans s2, (sl_ne (by decide) _).trans s7, ?_⟩
            simp only [sl_if (show (9 : Nat) < ac.tmps.size by have := hz.out; omega), if_true, Nat.reduceEqDiff, if_false, reduceIte]
            exact hP.at7 M0 M1 M0 M1 hd
          · simp at ho
            subst ho
            refine wpOp_of rfl rfl ?_
            have d6 := hdep { on := 6, ground := .data } (by simp) rfl
            have d2 := hdep { on := 2, ground := .data } (by simp) rfl
            have d5 := hdep { on := 5, ground := .chain } (by simp) rfl
            have d7 := hdep { on := 7, ground := .phase } (by simp) rfl
            obtain ⟨g5, g6, cs, ds, e2, e5, e6, e7, z5, hL, hP2⟩ := hP.laid hd d2 d5 d6 d7
            obtain ⟨p0, p1, p2, p3, p4, p4l, p4c, p5, p5l, p5c, rfl⟩ := hL.six
            have s8 : ac.tmps[8]?.getD undef = _ := e6
            have s58 : ac.tmps[58]?.getD undef = _ := e2
            have zc : ∀ j, wb.cell? ⟨g5, j, none⟩ = (#[.int .i64 0, .bool false, .int .i64 0, .string ⟨#[]⟩, .slice none 0 0, .slice none 0 0] : Array Value)[j]? := z5.cell
            have zf := z5.frozen
            go_simp
            exact hK ac _ ⟨hA, hz, s2, s7, hP2⟩
          · simp at ho
            subst ho
            refine wpOp_of rfl rfl ?_
            have d8 := hdep { on := 8, ground := .chain } (by simp) rfl
            obtain ⟨g6, ds, e5, e7, z6, hL, hP2⟩ := hP.both hd d8
            obtain ⟨q0, q1, q2, q3, q4, q4l, q4c, q5, q5l, q5c, rfl⟩ := hL.six
            have s9 : ac.tmps[9]?.getD undef = _ := e7
            have s61 : ac.tmps[61]?.getD undef = _ := e5
            have zc : ∀ j, wb.cell? ⟨g6, j, none⟩ = (#[.int .i64 0, .bool false, .int .i64 0, .string ⟨#[]⟩, .slice none 0 0, .slice none 0 0] : Array Value)[j]? := z6.cell
            have zf := z6.frozen
            go_simp
            exact hK ac _ ⟨hA, hz, s2, s7, hP2⟩
        · intro d ac wb hall hI
          obtain ⟨hA, hz, s2, s7, hP⟩ := hI
          obtain ⟨g8, g9, cs, ds, e5, e6, hF⟩ := hP.last (hall 9 (by decide))
          obtain ⟨p0, p1, p2, p3, p4, p4l, p4c, p5, p5l, p5c, rfl⟩ := hF.one.six
          obtain ⟨q0, q1, q2, q3, q4, q4l, q4c, q5, q5l, q5c, rfl⟩ := hF.two.six
          have hac := hA.act (fun t ht => by
            have h8 : t = 56 ∨ t = 57 ∨ t = 58 ∨ t = 59 ∨ t = 60 ∨ t = 61 ∨ t = 8 ∨ t = 9 := by simpa using ht
            rcases h8 with rfl | rfl | rfl | rfl | rfl | rfl | rfl | rfl <;> exact Nat.lt_of_lt_of_le (by decide : _ < 162) (Nat.le_refl 162))
          rw [List.foldl_cons, List.foldl_cons, List.foldl_cons, List.foldl_cons, List.foldl_cons, List.foldl_cons, List.foldl_cons, List.foldl_cons, List.foldl_nil, e5, e6] at hac
          generalize sl ac 56 = x56 at hac
          generalize sl ac 57 = x57 at hac
          generalize sl ac 58 = x58 at hac
          generalize sl ac 59 = x59 at hac
          generalize sl ac 60 = x60 at hac
          generalize sl ac 61 = x61 at hac
          clear hA hz s2 s7 hP e5 e6
          subst hac
          have BP : Hid (Box6 wb g8 #[.int .i64 p0, .bool p1, .int .i64 p2, .string p3, .slice p4 p4l p4c, .slice p5 p5l p5c]) := row_box6 hF.box
          have BQ : Hid (Box6 wb g9 #[.int .i64 q0, .bool q1, .int .i64 q2, .string q3, .slice q4 q4l q4c, .slice q5 q5l q5c]) := row_box6 hF.box2
          have HLP : Hid (Lies wb (fun _ => True) P #[.int .i64 p0, .bool p1, .int .i64 p2, .string p3, .slice p4 p4l p4c, .slice p5 p5l p5c]) := hF.one.weaken fun _ _ => trivial
          have HLQ : Hid (Lies wb (fun _ => True) D #[.int .i64 q0, .bool q1, .int .i64 q2, .string q3, .slice q4 q4l q4c, .slice q5 q5l q5c]) := hF.two.weaken fun _ _ => trivial
          have HF4 := Lib.hid hF.below
          have hg8 : g8 < wb.heap.size := World.block_lt_of_cell? _ _ (BP.out 0 (by decide))
          have hg9 : g9 < wb.heap.size := World.block_lt_of_cell? _ _ (BQ.out 0 (by decide))
          have HF := Lib.hid (bstep HB4.out hF.below HB4.out.size)
          have HWF := Lib.hid (bstep HV.out (bstep HB4.out hF.below HB4.out.size) HV.out.size)
          clear hF hall M0 M1 QR DR
          simp only [Act.put, List.setIfInBounds_toArray, List.set_cons_succ, List.set_cons_zero]
          obtain ⟨y0, y1, y2, y3, y4, y5⟩ := BP.out.six
          have PTB := Lib.hid (PTS.out.later HF4.out)
          go_upto_region 12 with (go_at_call 15; have hz := pGet_any HLP.out PTB.out wb (Below.refl _ _); rw [GPN.out] at hz; refine hz.mono ?_; rintro e w7 ⟨us, rfl, hL, hb⟩; obtain ⟨u0, u1, u2, u3, u4, u4l, u4c, u5, u5l, u5c, rfl⟩ := hL.six; have HB7 := Lib.hid hb; clear hL hb)
          have hb7 := HB7.out.alloc HB7.out.size (.cells #[.int .i64 u0, .bool u1, .int .i64 u2, .string u3, .slice u4 u4l u4c, .slice u5 u5l u5c] 25)
          generalize w7.alloc (.cells #[.int .i64 u0, .bool u1, .int .i64 u2, .string u3, .slice u4 u4l u4c, .slice u5 u5l u5c] 25) = v7 at hb7 ⊢
          have HV7 := Lib.hid hb7
          clear hb7 y0 y1 y2 y3 y4 y5 HB7
          obtain ⟨y0, y1, y2, y3, y4, y5⟩ := (BQ.out.later HV7.out hg9).six
          go_upto_region 15 with (go_at_call 15; have hz := pGet_any (HLQ.out.later HV7.out) (PTB.out.later HV7.out) v7 (Below.refl _ _); rw [GDN.out] at hz; refine hz.mono ?_; rintro e w8 ⟨us, rfl, hL, hb⟩; obtain ⟨g0, g1, g2, g3, g4, g4l, g4c, g5, g5l, g5c, rfl⟩ := hL.six; have HB8 := Lib.hid (bstep HV7.out hb HV7.out.size); clear hL hb)
          have hb8 := HB8.out.alloc HB8.out.size (.cells #[.int .i64 g0, .bool g1, .int .i64 g2, .string g3, .slice g4 g4l g4c, .slice g5 g5l g5c] 25)
          generalize w8.alloc (.cells #[.int .i64 g0, .bool g1, .int .i64 g2, .string g3, .slice g4 g4l g4c, .slice g5 g5l g5c] 25) = v8 at hb8 ⊢
          have HV8 := Lib.hid hb8
          have hs8 := hb8.size
          clear hb8 y0 y1 y2 y3 y4 y5 HB8
          go_wp2_with fail
          go_loopw [78] (fun v78 wr => ∃ j : Nat, j ≤ ls.length ∧ v78 = .int .i64 j ∧ Below v8.heap.size v8 wr) (fun v78 _ => ls.length - (intOf v78).toNat)
          case atStart => exact ⟨0, by omega, rfl, Below.refl _ _⟩
          case round =>
            obtain ⟨j, hj, rfl, hbr⟩ := hrel
            have HBR := Lib.hid hbr
            have HFR := Lib.hid (bstep HV8.out hbr HV8.out.size)
            clear hbr
            by_cases hjl : j < ls.length
            · obtain ⟨lb2, lo2, ka, kc, s0, s1, s2, s3, s4, s4l, s4c, s5, s5l, s5c, ha9, e0, e1, e2, e3, e4, e5, e6, hSS, hLs⟩ := HS.out.leaf HWH.out (bstep HF4.out HFR.out HF4.out.size) hjl
              obtain ⟨rfl, rfl⟩ : lb = lb2 ∧ lo = lo2 := by simpa using ha9
              have hb1 := (Below.refl wr.heap.size wr).alloc (Nat.le_refl _) (.cells #[.slice ka ls[j].1.length kc, .int .i64 s0, .bool s1, .int .i64 s2, .string s3, .slice s4 s4l s4c, .slice s5 s5l s5c] 35)
              have es : (wr.alloc (.cells #[.slice ka ls[j].1.length kc, .int .i64 s0, .bool s1, .int .i64 s2, .string s3, .slice s4 s4l s4c, .slice s5 s5l s5c] 35)).heap.size = wr.heap.size + 1 := by simp
              have pc : ∀ i, (wr.alloc (.cells #[.slice ka ls[j].1.length kc, .int .i64 s0, .bool s1, .int .i64 s2, .string s3, .slice s4 s4l s4c, .slice s5 s5l s5c] 35)).cell? ⟨wr.heap.size, i, none⟩ = (#[Value.slice ka ls[j].1.length kc, .int .i64 s0, .bool s1, .int .i64 s2, .string s3, .slice s4 s4l s4c, .slice s5 s5l s5c] : Array Value)[i]? := fun i => World.cell?_alloc_new _ _ _ _
              have HB1 := Lib.hid hb1
              have PC := Lib.hid pc
              have SSJ := Lib.hid (hSS.later hb1)
              have LSJ := Lib.hid (hLs.later hb1)
              have ES := Lib.hid es
              clear ha9 hb1 es pc hSS hLs
              go_upto_region 18 with fail
              generalize wr.alloc (.cells #[.slice ka ls[j].1.length kc, .int .i64 s0, .bool s1, .int .i64 s2, .string s3, .slice s4 s4l s4c, .slice s5 s5l s5c] 35) = z at *
              have hz1 : z.heap.size = wr.heap.size + 1 := ES.out
              clear ES e0 e1 e2 e3 e4 e5 e6
              have HFZ := Lib.hid (bstep HFR.out HB1.out HFR.out.size)
              have HZ8 := Lib.hid (bstep HBR.out HB1.out HBR.out.size)
              have PCL : Hid (∀ w', Below z.heap.size z w' → ∀ i, w'.cell? ⟨wr.heap.size, i, none⟩ = (#[Value.slice ka ls[j].1.length kc, .int .i64 s0, .bool s1, .int .i64 s2, .string s3, .slice s4 s4l s4c, .slice s5 s5l s5c] : Array Value)[i]?) := fun w' hb i => (hb.cell (p := ⟨wr.heap.size, i, none⟩) (show wr.heap.size < z.heap.size by omega)).trans (PC.out i)
              obtain ⟨y0, y1, y2, y3, y4, y5⟩ := (BP.out.later HFZ.out hg8).six
              have m0 : z.cell? ⟨wr.heap.size, 0, none⟩ = some (.slice ka ls[j].1.length kc) := PC.out 0
              by_cases hjk : j = kk
              case pos =>
                have f5 : ((j : Int) != (kk : Int)) = false := by simp [hjk]
                have ej : ls[j].1 = pt := by rw [HPT.out]; congr 1; exact getElem_congr_idx hjk
                have GJ1 := Lib.hid (pGet_any (HLP.out.later HFZ.out) SSJ.out z (Below.refl _ _))
                have GJ2 := Lib.hid (fun w' (hw' : Below z.heap.size z w') => pGet_any (HLQ.out.later HFZ.out) SSJ.out w' hw')
                have EJ := Lib.hid ej
                clear ej hjk
                go_upto_region 19 with (go_at_call 15; have hz := GJ1.out; rw [EJ.out, GPN.out] at hz; rw [EJ.out]; refine hz.mono ?_; rintro e w7 ⟨us, rfl, hL, hb⟩; obtain ⟨u0, u1, u2, u3, u4, u4l, u4c, u5, u5l, u5c, rfl⟩ := hL.six; have HB7 := Lib.hid hb; clear hL hb)
                have hb7 := HB7.out.alloc HB7.out.size (.cells #[.int .i64 u0, .bool u1, .int .i64 u2, .string u3, .slice u4 u4l u4c, .slice u5 u5l u5c] 25)
                generalize w7.alloc (.cells #[.int .i64 u0, .bool u1, .int .i64 u2, .string u3, .slice u4 u4l u4c, .slice u5 u5l u5c] 25) = z7 at hb7 ⊢
                have HZ7 := Lib.hid hb7
                clear hb7 HB7 y0 y1 y2 y3 y4 y5 m0 GJ1
                obtain ⟨y0, y1, y2, y3, y4, y5⟩ := (BQ.out.later (bstep HFZ.out HZ7.out HFZ.out.size) hg9).six
                have m0 : z7.cell? ⟨wr.heap.size, 0, none⟩ = some (.slice ka ls[j].1.length kc) := PCL.out z7 HZ7.out 0
                go_upto_region 20 with (go_at_call 15; have hz := GJ2.out z7 HZ7.out; rw [EJ.out, GDN.out] at hz; rw [EJ.out]; refine hz.mono ?_; rintro e w8 ⟨us, rfl, hL, hb⟩; obtain ⟨g0, g1, g2, g3, g4, g4l, g4c, g5, g5l, g5c, rfl⟩ := hL.six; have HB8 := Lib.hid (bstep HZ7.out hb HZ7.out.size); clear hL hb)
                have hb8 := HB8.out.alloc HB8.out.size (.cells #[.int .i64 g0, .bool g1, .int .i64 g2, .string g3, .slice g4 g4l g4c, .slice g5 g5l g5c] 25)
                generalize w8.alloc (.cells #[.int .i64 g0, .bool g1, .int .i64 g2, .string g3, .slice g4 g4l g4c, .slice g5 g5l g5c] 25) = z8 at hb8 ⊢
                have HZE := Lib.hid (bstep HZ8.out hb8 HZ8.out.size)
                clear hb8 HB8 y0 y1 y2 y3 y4 y5 m0 GJ2
                go_wp2_with fail
                go_roundw
                case rel => exact ⟨j + 1, by omega, by go_num, HZE.out⟩
                case measure => simp [intOf]; omega
              case neg =>
                have f5 : ((j : Int) != (kk : Int)) = true := by rw [bne_iff_ne]; omega
                have GJ1 := Lib.hid (pGet_any (HLP.out.later HFZ.out) SSJ.out z (Below.refl _ _))
                have GJ2 := Lib.hid (fun w' (hw' : Below z.heap.size z w') => pGet_any (HLQ.out.later HFZ.out) SSJ.out w' hw')
                have EJ1 := Lib.hid (GPJ.out j hjl hjk)
                have EJ2 := Lib.hid (GDJ.out j hjl hjk)
                clear hjk
                go_upto_region 19 with (go_at_call 15; have hz := GJ1.out; rw [EJ1.out] at hz; refine hz.mono ?_; rintro e w7 ⟨us, rfl, hL, hb⟩; obtain ⟨u0, u1, u2, u3, u4, u4l, u4c, u5, u5l, u5c, rfl⟩ := hL.six; have HB7 := Lib.hid hb; have HL7 := Lib.hid (show Lies w7 _ ls[j].2 _ from hL); clear hL hb)
                have hb7 := HB7.out.alloc HB7.out.size (.cells #[.int .i64 u0, .bool u1, .int .i64 u2, .string u3, .slice u4 u4l u4c, .slice u5 u5l u5c] 25)
                have hl7 := HL7.out.later ((Below.refl w7.heap.size w7).alloc (Nat.le_refl _) (.cells #[.int .i64 u0, .bool u1, .int .i64 u2, .string u3, .slice u4 u4l u4c, .slice u5 u5l u5c] 25))
                have bu := Box6.new w7 #[.int .i64 u0, .bool u1, .int .i64 u2, .string u3, .slice u4 u4l u4c, .slice u5 u5l u5c] 25
                have hs7 : w7.heap.size < (w7.alloc (.cells #[.int .i64 u0, .bool u1, .int .i64 u2, .string u3, .slice u4 u4l u4c, .slice u5 u5l u5c] 25)).heap.size := by simp
                generalize w7.alloc (.cells #[.int .i64 u0, .bool u1, .int .i64 u2, .string u3, .slice u4 u4l u4c, .slice u5 u5l u5c] 25) = z7 at hb7 hl7 bu hs7 ⊢
                have HZ7 := Lib.hid hb7
                have HX7 := Lib.hid hl7
                have BU := Lib.hid bu
                clear hb7 hl7 bu HB7 HL7 y0 y1 y2 y3 y4 y5 m0 GJ1
                obtain ⟨y0, y1, y2, y3, y4, y5⟩ := (BQ.out.later (bstep HFZ.out HZ7.out HFZ.out.size) hg9).six
                have m0 : z7.cell? ⟨wr.heap.size, 0, none⟩ = some (.slice ka ls[j].1.length kc) := PCL.out z7 HZ7.out 0
                go_upto_region 20 with (go_at_call 15; have hz := GJ2.out z7 HZ7.out; rw [EJ2.out] at hz; refine hz.mono ?_; rintro e w8 ⟨us, rfl, hL, hb⟩; obtain ⟨g0, g1, g2, g3, g4, g4l, g4c, g5, g5l, g5c, rfl⟩ := hL.six; have HB8 := Lib.hid hb; have HL8 := Lib.hid (show Lies w8 _ ls[j].2 _ from hL); clear hL hb)
                have hb8 := HB8.out.alloc HB8.out.size (.cells #[.int .i64 g0, .bool g1, .int .i64 g2, .string g3, .slice g4 g4l g4c, .slice g5 g5l g5c] 25)
                have hl8 := HL8.out.later ((Below.refl w8.heap.size w8).alloc (Nat.le_refl _) (.cells #[.int .i64 g0, .bool g1, .int .i64 g2, .string g3, .slice g4 g4l g4c, .slice g5 g5l g5c] 25))
                have bg := Box6.new w8 #[.int .i64 g0, .bool g1, .int .i64 g2, .string g3, .slice g4 g4l g4c, .slice g5 g5l g5c] 25
                have hs8' : w8.heap.size < (w8.alloc (.cells #[.int .i64 g0, .bool g1, .int .i64 g2, .string g3, .slice g4 g4l g4c, .slice g5 g5l g5c] 25)).heap.size := by simp
                generalize w8.alloc (.cells #[.int .i64 g0, .bool g1, .int .i64 g2, .string g3, .slice g4 g4l g4c, .slice g5 g5l g5c] 25) = z8 at hb8 hl8 bg hs8' ⊢
                have HE8 := Lib.hid hb8
                have HZZ := Lib.hid (bstep HZ7.out hb8 HZ7.out.size)
                have BG := Lib.hid bg
                have hx7 := HX7.out.later hb8
                have hsl := LSJ.out.later (bstep HZ7.out hb8 HZ7.out.size)
                have SA0 := fun w' (hw' : Below z8.heap.size z8 w') => rSame_any hx7 hsl w' hw'
                have SB0 := fun w' (hw' : Below z8.heap.size z8 w') => rSame_any hl8 hsl w' hw'
                rw [T.same_self] at SA0 SB0
                have SA := Lib.hid SA0
                have SB := Lib.hid SB0
                have HZE := Lib.hid (bstep HZ8.out (bstep HZ7.out hb8 HZ7.out.size) HZ8.out.size)
                clear hb8 hl8 bg HB8 HL8 y0 y1 y2 y3 y4 y5 m0 GJ2 hx7 hsl SA0 SB0
                obtain ⟨y0, y1, y2, y3, y4, y5⟩ := (BU.out.later HE8.out hs7).six
                have m1 : z8.cell? ⟨wr.heap.size, 1, none⟩ = some (.int .i64 s0) := PCL.out z8 HZZ.out 1
                have m2 : z8.cell? ⟨wr.heap.size, 2, none⟩ = some (.bool s1) := PCL.out z8 HZZ.out 2
                have m3 : z8.cell? ⟨wr.heap.size, 3, none⟩ = some (.int .i64 s2) := PCL.out z8 HZZ.out 3
                have m4 : z8.cell? ⟨wr.heap.size, 4, none⟩ = some (.string s3) := PCL.out z8 HZZ.out 4
                have m5 : z8.cell? ⟨wr.heap.size, 5, none⟩ = some (.slice s4 s4l s4c) := PCL.out z8 HZZ.out 5
                have m6 : z8.cell? ⟨wr.heap.size, 6, none⟩ = some (.slice s5 s5l s5c) := PCL.out z8 HZZ.out 6
                go_wp2_with (first
                  | ((with_reducible refine (SA.out z8 (Below.refl _ _)).mono ?_); rintro e w9 ⟨rfl, hb9⟩; have HB9 := Lib.hid hb9; have HZ9 := Lib.hid (bstep HZZ.out hb9 HZZ.out.size); clear hb9 y0 y1 y2 y3 y4 y5 m1 m2 m3 m4 m5 m6; obtain ⟨y0, y1, y2, y3, y4, y5⟩ := (BG.out.later HB9.out hs8').six; have m1 : w9.cell? ⟨wr.heap.size, 1, none⟩ = some (.int .i64 s0) := PCL.out w9 HZ9.out 1; have m2 : w9.cell? ⟨wr.heap.size, 2, none⟩ = some (.bool s1) := PCL.out w9 HZ9.out 2; have m3 : w9.cell? ⟨wr.heap.size, 3, none⟩ = some (.int .i64 s2) := PCL.out w9 HZ9.out 3; have m4 : w9.cell? ⟨wr.heap.size, 4, none⟩ = some (.string s3) := PCL.out w9 HZ9.out 4; have m5 : w9.cell? ⟨wr.heap.size, 5, none⟩ = some (.slice s4 s4l s4c) := PCL.out w9 HZ9.out 5; have m6 : w9.cell? ⟨wr.heap.size, 6, none⟩ = some (.slice s5 s5l s5c) := PCL.out w9 HZ9.out 6)
                  | ((with_reducible refine (SB.out w9 HB9.out).mono ?_); rintro e wa ⟨rfl, hba⟩; have HZA := Lib.hid (bstep HZE.out (bstep HB9.out hba HB9.out.size) HZE.out.size); clear hba))
                go_roundw
                case rel => exact ⟨j + 1, by omega, by go_num, HZA.out⟩
                case measure => simp [intOf]; omega
            · obtain rfl : j = ls.length := by omega
              clear hjl
              go_wp2_with fail
              have HRZ := HFR
              generalize wr = wz at *
              obtain ⟨qb, qo, hqa⟩ := PTS.out.ofSome (by omega)
              subst hqa
              have hqle := PTS.out.le
              have hqmax := PTS.out.max
              go_loopw [20] (fun v20 wx => ∃ i : Nat, 1 ≤ i ∧ i ≤ pt.length ∧ v20 = .int .i64 i ∧ Below wz.heap.size wz wx) (fun v20 _ => pt.length - (intOf v20).toNat)
              case atStart => exact ⟨1, Nat.le_refl _, hpt1, rfl, Below.refl _ _⟩
              case round =>
                obtain ⟨i, hi1, hi2, rfl, hbx⟩ := hrel
                have HWX := Lib.hid hbx
                clear hbx
                by_cases hil : i < pt.length
                · have PTI := Lib.hid (PTS.out.take i (by omega))
                  have HWR := Lib.hid (bstep HRZ.out HWX.out HRZ.out.size)
                  have BPX : Hid (∀ w', Below wr.heap.size wr w' → Box6 w' g8 #[.int .i64 p0, .bool p1, .int .i64 p2, .string p3, .slice p4 p4l p4c, .slice p5 p5l p5c]) := fun w' hb => BP.out.later (bstep HWR.out hb HWR.out.size) hg8
                  have HF4R := Lib.hid (bstep HF4.out HWR.out HF4.out.size)
                  have hqc : ¬ qc = 0 := by omega
                  have hiq : i ≤ qc := by omega
                  have GIP := Lib.hid (GPI.out i hi1 hil)
                  obtain ⟨ux, hux, hu5⟩ := GDI.out i hi1 hil
                  have GTP0 : ∃ qp : Bool, ∀ w', Below wr.heap.size wr w' → Calls Try.prog 15 #[.agg #[.int .i64 p0, .bool p1, .int .i64 p2, .string p3, .slice p4 p4l p4c, .slice p5 p5l p5c], .slice (some ⟨qb, qo, none⟩) i qc] w' fun e w2 => ∃ (d0 : Int) (d1 : Bool) (d2 : Int) (d3 : ByteArray) (d4 : Option Addr) (d4l d4c : Nat) (d5 : Option Addr) (d5l d5c : Nat), e = .returned (.tuple #[.agg #[.int .i64 d0, .bool d1, .int .i64 d2, .string d3, .slice d4 d4l d4c, .slice d5 d5l d5c], .bool qp]) ∧ (qp = true → d5l ≠ 0) ∧ Below w'.heap.size w' w2 := by
                    refine ⟨(atL (pt.take i) P).isSome, fun w' hw' => ?_⟩
                    have h := pGet_any (HLP.out.later (bstep HWR.out hw' HWR.out.size)) (PTI.out.later (bstep HF4R.out hw' HF4R.out.size)) w' (Below.refl _ _)
                    rw [List.length_take_of_le (by omega)] at h
                    refine h.mono ?_
                    rintro e w2 ⟨ds, rfl, hL, hb⟩
                    obtain ⟨d0, d1, d2, d3, d4, d4l, d4c, d5, d5l, d5c, rfl⟩ := hL.six
                    refine ⟨d0, d1, d2, d3, d4, d4l, d4c, d5, d5l, d5c, rfl, fun hq e5 => ?_, hb⟩
                    cases hat : atL (pt.take i) P with
                    | none => rw [hat] at hq; cases hq
                    | some u =>
                      rw [hat] at hL
                      have h2 := (lies_len hL).2
                      exact GIP.out u hat (List.eq_nil_of_length_eq_zero (h2.trans e5))
                  obtain ⟨qp, GTP1⟩ := GTP0
                  have GTP := Lib.hid GTP1
                  clear GTP1 hi2 GIP
                  go_upto_region 26 with fail
                  refine wp_region_specsL wr 9 8 (fun i' => match i' with | 0 => 130 | 1 => 131 | 2 => 132 | 3 => 133 | 4 => 134 | 5 => 129 | 6 => 135 | 7 => 136 | 8 => 21 | 9 => 22 | _ => 0) (fun i' => decide (i' = 7)) (fun i' x wx => match i' with | 0 => x = .agg #[.int .i64 p0, .bool p1, .int .i64 p2, .string p3, .slice p4 p4l p4c, .slice p5 p5l p5c] | 1 => x = .slice (some ⟨qb, qo, none⟩) pt.length qc | 2 => x = .int .i64 i | 3 => x = .slice (some ⟨qb, qo, none⟩) i qc   | 4 => ∃ (d0 : Int) (d1 : Bool) (d2 : Int) (d3 : ByteArray) (d4 : Option Addr) (d4l d4c : Nat) (d5 : Option Addr) (d5l d5c : Nat), x = .tuple #[.agg #[.int .i64 d0, .bool d1, .int .i64 d2, .string d3, .slice d4 d4l d4c, .slice d5 d5l d5c], .bool qp] ∧ (qp = true → d5l ≠ 0) | 5 => ∃ (d0 : Int) (d1 : Bool) (d2 : Int) (d3 : ByteArray) (d4 : Option Addr) (d4l d4c : Nat) (d5 : Option Addr) (d5l d5c : Nat), x = .tuple #[.agg #[.int .i64 d0, .bool d1, .int .i64 d2, .string d3, .slice d4 d4l d4c, .slice d5 d5l d5c], .bool qp] ∧ (qp = true → d5l ≠ 0) | 6 => ∃ (d0 : Int) (d1 : Bool) (d2 : Int) (d3 : ByteArray) (d4 : Option Addr) (d4l d4c : Nat) (d5 : Option Addr) (d5l d5c : Nat), x = .agg #[.int .i64 d0, .bool d1, .int .i64 d2, .string d3, .slice d4 d4l d4c, .slice d5 d5l d5c] ∧ (qp = true → d5l ≠ 0) | 7 => x = .bool qp   | 8 => ∃ g : Nat, x = .pointer (some ⟨g, 0, none⟩) ∧ ZB wx g ∧ wr.heap.size ≤ g | _ => True) (fun i' x => match i' with | 0 => x = .agg #[.int .i64 p0, .bool p1, .int .i64 p2, .string p3, .slice p4 p4l p4c, .slice p5 p5l p5c] | 1 => x = .slice (some ⟨qb, qo, none⟩) pt.length qc | 2 => x = .int .i64 i | 3 => x = .slice (some ⟨qb, qo, none⟩) i qc   | 4 => ∃ (d0 : Int) (d1 : Bool) (d2 : Int) (d3 : ByteArray) (d4 : Option Addr) (d4l d4c : Nat) (d5 : Option Addr) (d5l d5c : Nat), x = .tuple #[.agg #[.int .i64 d0, .bool d1, .int .i64 d2, .string d3, .slice d4 d4l d4c, .slice d5 d5l d5c], .bool qp] ∧ (qp = true → d5l ≠ 0) | 5 => ∃ (d0 : Int) (d1 : Bool) (d2 : Int) (d3 : ByteArray) (d4 : Option Addr) (d4l d4c : Nat) (d5 : Option Addr) (d5l d5c : Nat), x = .tuple #[.agg #[.int .i64 d0, .bool d1, .int .i64 d2, .string d3, .slice d4 d4l d4c, .slice d5 d5l d5c], .bool qp] ∧ (qp = true → d5l ≠ 0) | 6 => ∃ (d0 : Int) (d1 : Bool) (d2 : Int) (d3 : ByteArray) (d4 : Option Addr) (d4l d4c : Nat) (d5 : Option Addr) (d5l d5c : Nat), x = .agg #[.int .i64 d0, .bool d1, .int .i64 d2, .string d3, .slice d4 d4l d4c, .slice d5 d5l d5c] ∧ (qp = true → d5l ≠ 0) | 7 => x = .bool qp   | 8 => ∃ g : Nat, x = .pointer (some ⟨g, 0, none⟩) ∧ wr.heap.size ≤ g | 9 => x = .bool qp | _ => True) (fun x wx => ∃ (g : Nat) (d0 : Int) (d1 : Bool) (d2 : Int) (d3 : ByteArray) (d4 : Option Addr) (d4l d4c : Nat) (d5 : Option Addr) (d5l d5c : Nat), x = .pointer (some ⟨g, 0, none⟩) ∧ Hid (Box6 wx g #[.int .i64 d0, .bool d1, .int .i64 d2, .string d3, .slice d4 d4l d4c, .slice d5 d5l d5c]) ∧ (qp = true → d5l ≠ 0) ∧ wr.heap.size ≤ g ∧ g < wx.heap.size ∧ Below wr.heap.size wr wx) (by kernel_rfl) (by kernel_rfl) ?s1 (by decide) (by decide) (Below.refl _ _) ?s2 ?s3 ?s4 ?s5 ?s6 ?s7 ?s8 ?s9
                  case s1 => intro i' hi; rcases (by omega : i' = 0 ∨ i' = 1 ∨ i' = 2 ∨ i' = 3 ∨ i' = 4 ∨ i' = 5 ∨ i' = 6 ∨ i' = 7 ∨ i' = 8 ∨ i' = 9) with rfl | rfl | rfl | rfl | rfl | rfl | rfl | rfl | rfl | rfl <;> exact Nat.lt_of_lt_of_le (by decide : _ < 162) (Nat.le_refl 162)
                  case s2 =>
                    intro i' x w1 w2 hb hU
                    match i', hU with
                    | 8, ⟨g, e, hz, hg⟩ => exact ⟨g, e, hz.later hb, hg⟩
                    | 0, h | 1, h | 2, h | 3, h | 4, h | 5, h | 6, h | 7, h => exact h
                    | (m + 9), _ => trivial
                  case s3 =>
                    intro i' x w1 hi hU
                    match i', hU with
                    | 8, ⟨g, e, hz, hg⟩ => exact ⟨g, e, hg⟩
                    | 0, h | 1, h | 2, h | 3, h | 4, h | 5, h | 6, h | 7, h => exact h
                    | (m + 9), _ => omega
                  case s4 =>
                    intro i' x w1 hi hL hU
                    obtain rfl : i' = 7 := of_decide_eq_true hL
                    exact hU
                  case s5 =>
                    intro i' o ac wb K' ho hi hL hA hB hdep hK
                    have sv7 : ac.tmps[7]?.getD undef = .slice (some ⟨qb, qo, none⟩) pt.length qc := hA.sl (t := 7) (by decide)
                    have svb : ac.tmps[8]?.getD undef = .pointer (some ⟨g8, 0, none⟩) := hA.sl (t := 8) (by decide)
                    have sv20 : ac.tmps[20]?.getD undef = .int .i64 i := hA.sl (t := 20) (by decide)
                    obtain ⟨y0, y1, y2, y3, y4, y5⟩ := (BPX.out wb hB).six
                    have hL : i' ≠ 7 := of_decide_eq_false hL
                    rcases (by omega : i' = 0 ∨ i' = 1 ∨ i' = 2 ∨ i' = 3 ∨ i' = 4 ∨ i' = 5 ∨ i' = 6 ∨ i' = 8) with rfl | rfl | rfl | rfl | rfl | rfl | rfl | rfl
                    · simp at ho
                      subst ho
                      clear hdep hA
                      go_simp
                      exact hK _ wb (Below.refl _ _) rfl
                    · simp at ho
                      subst ho
                      clear hdep hA
                      go_simp
                      exact hK _ wb (Below.refl _ _) rfl
                    · simp at ho
                      subst ho
                      clear hdep hA
                      go_simp
                      exact hK _ wb (Below.refl _ _) rfl
                    · simp at ho
                      subst ho
                      have z1 : ac.tmps[131]?.getD undef = .slice (some ⟨qb, qo, none⟩) pt.length qc := hdep { on := 1, ground := .data } (by simp) rfl
                      have z2 : ac.tmps[132]?.getD undef = .int .i64 i := hdep { on := 2, ground := .data } (by simp) rfl
                      clear hdep hA
                      go_simp
                      exact hK _ wb (Below.refl _ _) rfl
                    · simp at ho
                      subst ho
                      have z0 : ac.tmps[130]?.getD undef = .agg #[.int .i64 p0, .bool p1, .int .i64 p2, .string p3, .slice p4 p4l p4c, .slice p5 p5l p5c] := hdep { on := 0, ground := .data } (by simp) rfl
                      have z3 : ac.tmps[133]?.getD undef = .slice (some ⟨qb, qo, none⟩) i qc := hdep { on := 3, ground := .data } (by simp) rfl
                      clear hdep hA
                      go_simp
                      refine (GTP.out wb hB).mono ?_
                      rintro e w5 ⟨d0, d1, d2, d3, d4, d4l, d4c, d5, d5l, d5c, rfl, hf, hb⟩
                      exact hK _ w5 hb ⟨d0, d1, d2, d3, d4, d4l, d4c, d5, d5l, d5c, rfl, hf⟩
                    · simp at ho
                      subst ho
                      obtain ⟨d0, d1, d2, d3, d4, d4l, d4c, d5, d5l, d5c, z4, hf⟩ := hdep { on := 4, ground := .data } (by simp) rfl
                      have z4 : ac.tmps[134]?.getD undef = .tuple #[.agg #[.int .i64 d0, .bool d1, .int .i64 d2, .string d3, .slice d4 d4l d4c, .slice d5 d5l d5c], .bool qp] := z4
                      clear hdep hA
                      go_simp
                      exact hK _ wb (Below.refl _ _) ⟨d0, d1, d2, d3, d4, d4l, d4c, d5, d5l, d5c, rfl, hf⟩
                    · simp at ho
                      subst ho
                      obtain ⟨d0, d1, d2, d3, d4, d4l, d4c, d5, d5l, d5c, z4, hf⟩ := hdep { on := 5, ground := .data } (by simp) rfl
                      have z4 : ac.tmps[129]?.getD undef = .tuple #[.agg #[.int .i64 d0, .bool d1, .int .i64 d2, .string d3, .slice d4 d4l d4c, .slice d5 d5l d5c], .bool qp] := z4
                      clear hdep hA
                      go_simp
                      exact hK _ wb (Below.refl _ _) ⟨d0, d1, d2, d3, d4, d4l, d4c, d5, d5l, d5c, rfl, hf⟩
                    · simp at ho
                      subst ho
                      clear hdep hA
                      go_simp
                      exact hK _ _ ((Below.refl _ _).alloc (Nat.le_refl _) _) ⟨wb.heap.size, rfl, ZB.new wb, hB.size⟩
                  case s6 =>
                    intro i' o ac wb K' ho hi hL hA hdep hK
                    obtain rfl : i' = 7 := of_decide_eq_true hL
                    simp at ho
                    subst ho
                    obtain ⟨d0, d1, d2, d3, d4, d4l, d4c, d5, d5l, d5c, z4, hf⟩ := hdep { on := 5, ground := .data } (by simp) rfl
                    have z4 : ac.tmps[129]?.getD undef = .tuple #[.agg #[.int .i64 d0, .bool d1, .int .i64 d2, .string d3, .slice d4 d4l d4c, .slice d5 d5l d5c], .bool qp] := z4
                    clear hdep hA
                    go_simp
                    exact hK _ rfl
                  case s7 =>
                    intro o ac wb K' ho hA hB hU hK
                    simp at ho
                    subst ho
                    obtain ⟨d0, d1, d2, d3, d4, d4l, d4c, d5, d5l, d5c, z6, hf⟩ := hU 6 (by omega) (by decide)
                    obtain ⟨g, z8, hzb, hg⟩ := hU 8 (by omega) (by decide)
                    have z6 : ac.tmps[135]?.getD undef = .agg #[.int .i64 d0, .bool d1, .int .i64 d2, .string d3, .slice d4 d4l d4c, .slice d5 d5l d5c] := z6
                    have z8' : ac.tmps[21]?.getD undef = .pointer (some ⟨g, 0, none⟩) := z8
                    have zc : ∀ j, wb.cell? ⟨g, j, none⟩ = (#[.int .i64 0, .bool false, .int .i64 0, .string ⟨#[]⟩, .slice none 0 0, .slice none 0 0] : Array Value)[j]? := hzb.cell
                    have zf := hzb.frozen
                    have hbx : Box6 (setRow wb g 0 [.int .i64 d0, .bool d1, .int .i64 d2, .string d3, .slice d4 d4l d4c, .slice d5 d5l d5c]) g #[.int .i64 d0, .bool d1, .int .i64 d2, .string d3, .slice d4 d4l d4c, .slice d5 d5l d5c] := row_box6 (zb_rows hzb [.int .i64 d0, .bool d1, .int .i64 d2, .string d3, .slice d4 d4l d4c, .slice d5 d5l d5c] rfl)
                    have hlt := hzb.lt
                    clear hU hA
                    go_simp
                    exact hK _ ⟨g, d0, d1, d2, d3, d4, d4l, d4c, d5, d5l, d5c, z8, hbx, hf, hg, by show _ < (setRow wb g 0 [.int .i64 d0, .bool d1, .int .i64 d2, .string d3, .slice d4 d4l d4c, .slice d5 d5l d5c]).heap.size; rw [setRow_size]; exact hlt, setRow_below g hg [.int .i64 d0, .bool d1, .int .i64 d2, .string d3, .slice d4 d4l d4c, .slice d5 d5l d5c] wb 0 hB⟩
                  case s8 =>
                    intro o ac wb K' ho hA hVV hK
                    simp at ho
                    subst ho
                    have z7 : ac.tmps[136]?.getD undef = .bool qp := hVV 7 (by omega)
                    clear hVV hA
                    go_simp
                    exact hK _ rfl
                  case s9 =>
                    intro ac wn hA hVV hF
                    obtain ⟨g, d0, d1, d2, d3, d4, d4l, d4c, d5, d5l, d5c, z8, hbx, hf, hg, hgl, hbn⟩ := hF
                    have z9 := hVV 9 (by omega)
                    have hs : slots 10 (fun i' => match i' with | 0 => 130 | 1 => 131 | 2 => 132 | 3 => 133 | 4 => 134 | 5 => 129 | 6 => 135 | 7 => 136 | 8 => 21 | 9 => 22 | _ => 0) = [130, 131, 132, 133, 134, 129, 135, 136, 21, 22] := by rfl
                    rw [hs] at hA
                    have hac := hA.act (fun t ht => by
                      have h8 : t = 130 ∨ t = 131 ∨ t = 132 ∨ t = 133 ∨ t = 134 ∨ t = 129 ∨ t = 135 ∨ t = 136 ∨ t = 21 ∨ t = 22 := by simpa using ht
                      rcases h8 with rfl | rfl | rfl | rfl | rfl | rfl | rfl | rfl | rfl | rfl <;> exact Nat.lt_of_lt_of_le (by decide : _ < 162) (Nat.le_refl 162))
                    rw [List.foldl_cons, List.foldl_cons, List.foldl_cons, List.foldl_cons, List.foldl_cons, List.foldl_cons, List.foldl_cons, List.foldl_cons, List.foldl_cons, List.foldl_cons, List.foldl_nil] at hac
                    have z8 : sl ac 21 = .pointer (some ⟨g, 0, none⟩) := z8
                    have z9 : sl ac 22 = .bool qp := z9
                    rw [z8, z9] at hac
                    generalize sl ac 130 = x130 at hac
                    generalize sl ac 131 = x131 at hac
                    generalize sl ac 132 = x132 at hac
                    generalize sl ac 133 = x133 at hac
                    generalize sl ac 134 = x134 at hac
                    generalize sl ac 129 = x129 at hac
                    generalize sl ac 135 = x135 at hac
                    generalize sl ac 136 = x136 at hac
                    clear hA hs hVV z8 z9
                    subst hac
                    simp only [Act.put, List.setIfInBounds_toArray, List.set_cons_succ, List.set_cons_zero]
                    have HB21 := hbx
                    have HF21 := Lib.hid hf
                    have HBN1 := Lib.hid hbn
                    have hgl21 := hgl
                    have HWR2 := Lib.hid (bstep HWR.out hbn HWR.out.size)
                    have HF4R2 := Lib.hid (bstep HF4.out HWR2.out HF4.out.size)
                    have BQX : Hid (∀ w', Below wn.heap.size wn w' → Box6 w' g9 #[.int .i64 q0, .bool q1, .int .i64 q2, .string q3, .slice q4 q4l q4c, .slice q5 q5l q5c]) := fun w' hb => BQ.out.later (bstep HWR2.out hb HWR2.out.size) hg9
                    have GTD : Hid (∀ w', Below wn.heap.size wn w' → Calls Try.prog 15 #[.agg #[.int .i64 q0, .bool q1, .int .i64 q2, .string q3, .slice q4 q4l q4c, .slice q5 q5l q5c], .slice (some ⟨qb, qo, none⟩) i qc] w' fun e w2 => ∃ (m0 : Int) (m1 : Bool) (m2 : Int) (m3 : ByteArray) (m4 : Option Addr) (m4l m4c : Nat) (m5 : Option Addr) (m5l m5c : Nat), e = .returned (.tuple #[.agg #[.int .i64 m0, .bool m1, .int .i64 m2, .string m3, .slice m4 m4l m4c, .slice m5 m5l m5c], .bool true]) ∧ Hid (m0 = 5) ∧ Below w'.heap.size w' w2) := fun w' hw' => by
                      have h := pGet_any (HLQ.out.later (bstep HWR2.out hw' HWR2.out.size)) (PTI.out.later (bstep HF4R2.out hw' HF4R2.out.size)) w' (Below.refl _ _)
                      rw [List.length_take_of_le (by omega), hux] at h
                      refine h.mono ?_
                      rintro e w2 ⟨ds, rfl, hL, hb⟩
                      obtain ⟨m0, m1, m2, m3, m4, m4l, m4c, m5, m5l, m5c, rfl⟩ := hL.six
                      exact ⟨m0, m1, m2, m3, m4, m4l, m4c, m5, m5l, m5c, rfl, (lies_len hL).1.symm.trans hu5, hb⟩
                    clear hf hbn hbx hgl hg
                    go_upto_region 27 with fail
                    refine wp_region_specsL wn 9 8 (fun i' => match i' with | 0 => 138 | 1 => 139 | 2 => 140 | 3 => 141 | 4 => 142 | 5 => 137 | 6 => 143 | 7 => 144 | 8 => 23 | 9 => 24 | _ => 0) (fun i' => decide (i' = 7)) (fun i' x wx => match i' with | 0 => x = .agg #[.int .i64 q0, .bool q1, .int .i64 q2, .string q3, .slice q4 q4l q4c, .slice q5 q5l q5c] | 1 => x = .slice (some ⟨qb, qo, none⟩) pt.length qc | 2 => x = .int .i64 i | 3 => x = .slice (some ⟨qb, qo, none⟩) i qc   | 4 => ∃ (m0 : Int) (m1 : Bool) (m2 : Int) (m3 : ByteArray) (m4 : Option Addr) (m4l m4c : Nat) (m5 : Option Addr) (m5l m5c : Nat), x = .tuple #[.agg #[.int .i64 m0, .bool m1, .int .i64 m2, .string m3, .slice m4 m4l m4c, .slice m5 m5l m5c], .bool true] ∧ Hid (m0 = 5) | 5 => ∃ (m0 : Int) (m1 : Bool) (m2 : Int) (m3 : ByteArray) (m4 : Option Addr) (m4l m4c : Nat) (m5 : Option Addr) (m5l m5c : Nat), x = .tuple #[.agg #[.int .i64 m0, .bool m1, .int .i64 m2, .string m3, .slice m4 m4l m4c, .slice m5 m5l m5c], .bool true] ∧ Hid (m0 = 5) | 6 => ∃ (m0 : Int) (m1 : Bool) (m2 : Int) (m3 : ByteArray) (m4 : Option Addr) (m4l m4c : Nat) (m5 : Option Addr) (m5l m5c : Nat), x = .agg #[.int .i64 m0, .bool m1, .int .i64 m2, .string m3, .slice m4 m4l m4c, .slice m5 m5l m5c] ∧ Hid (m0 = 5) | 7 => x = .bool true   | 8 => ∃ g : Nat, x = .pointer (some ⟨g, 0, none⟩) ∧ ZB wx g ∧ wn.heap.size ≤ g | _ => True) (fun i' x => match i' with | 0 => x = .agg #[.int .i64 q0, .bool q1, .int .i64 q2, .string q3, .slice q4 q4l q4c, .slice q5 q5l q5c] | 1 => x = .slice (some ⟨qb, qo, none⟩) pt.length qc | 2 => x = .int .i64 i | 3 => x = .slice (some ⟨qb, qo, none⟩) i qc   | 4 => ∃ (m0 : Int) (m1 : Bool) (m2 : Int) (m3 : ByteArray) (m4 : Option Addr) (m4l m4c : Nat) (m5 : Option Addr) (m5l m5c : Nat), x = .tuple #[.agg #[.int .i64 m0, .bool m1, .int .i64 m2, .string m3, .slice m4 m4l m4c, .slice m5 m5l m5c], .bool true] ∧ Hid (m0 = 5) | 5 => ∃ (m0 : Int) (m1 : Bool) (m2 : Int) (m3 : ByteArray) (m4 : Option Addr) (m4l m4c : Nat) (m5 : Option Addr) (m5l m5c : Nat), x = .tuple #[.agg #[.int .i64 m0, .bool m1, .int .i64 m2, .string m3, .slice m4 m4l m4c, .slice m5 m5l m5c], .bool true] ∧ Hid (m0 = 5) | 6 => ∃ (m0 : Int) (m1 : Bool) (m2 : Int) (m3 : ByteArray) (m4 : Option Addr) (m4l m4c : Nat) (m5 : Option Addr) (m5l m5c : Nat), x = .agg #[.int .i64 m0, .bool m1, .int .i64 m2, .string m3, .slice m4 m4l m4c, .slice m5 m5l m5c] ∧ Hid (m0 = 5) | 7 => x = .bool true   | 8 => ∃ g : Nat, x = .pointer (some ⟨g, 0, none⟩) ∧ wn.heap.size ≤ g | 9 => x = .bool true | _ => True) (fun x wx => ∃ (g : Nat) (m0 : Int) (m1 : Bool) (m2 : Int) (m3 : ByteArray) (m4 : Option Addr) (m4l m4c : Nat) (m5 : Option Addr) (m5l m5c : Nat), x = .pointer (some ⟨g, 0, none⟩) ∧ Hid (Box6 wx g #[.int .i64 m0, .bool m1, .int .i64 m2, .string m3, .slice m4 m4l m4c, .slice m5 m5l m5c]) ∧ Hid (m0 = 5) ∧ wn.heap.size ≤ g ∧ g < wx.heap.size ∧ Below wn.heap.size wn wx) (by kernel_rfl) (by kernel_rfl) ?s1 (by decide) (by decide) (Below.refl _ _) ?s2 ?s3 ?s4 ?s5 ?s6 ?s7 ?s8 ?s9
                    case s1 => intro i' hi; rcases (by omega : i' = 0 ∨ i' = 1 ∨ i' = 2 ∨ i' = 3 ∨ i' = 4 ∨ i' = 5 ∨ i' = 6 ∨ i' = 7 ∨ i' = 8 ∨ i' = 9) with rfl | rfl | rfl | rfl | rfl | rfl | rfl | rfl | rfl | rfl <;> exact Nat.lt_of_lt_of_le (by decide : _ < 162) (Nat.le_refl 162)
                    case s2 =>
                      intro i' x w1 w2 hb hU
                      match i', hU with
                      | 8, ⟨g, e, hz, hg⟩ => exact ⟨g, e, hz.later hb, hg⟩
                      | 0, h | 1, h | 2, h | 3, h | 4, h | 5, h | 6, h | 7, h => exact h
                      | (m + 9), _ => trivial
                    case s3 =>
                      intro i' x w1 hi hU
                      match i', hU with
                      | 8, ⟨g, e, hz, hg⟩ => exact ⟨g, e, hg⟩
                      | 0, h | 1, h | 2, h | 3, h | 4, h | 5, h | 6, h | 7, h => exact h
                      | (m + 9), _ => omega
                    case s4 =>
                      intro i' x w1 hi hL hU
                      obtain rfl : i' = 7 := of_decide_eq_true hL
                      exact hU
                    case s5 =>
                      intro i' o ac wb K' ho hi hL hA hB hdep hK
                      have sv7 : ac.tmps[7]?.getD undef = .slice (some ⟨qb, qo, none⟩) pt.length qc := hA.sl (t := 7) (by decide)
                      have svb : ac.tmps[9]?.getD undef = .pointer (some ⟨g9, 0, none⟩) := hA.sl (t := 9) (by decide)
                      have sv20 : ac.tmps[20]?.getD undef = .int .i64 i := hA.sl (t := 20) (by decide)
                      obtain ⟨y0, y1, y2, y3, y4, y5⟩ := (BQX.out wb hB).six
                      have hL : i' ≠ 7 := of_decide_eq_false hL
                      rcases (by omega : i' = 0 ∨ i' = 1 ∨ i' = 2 ∨ i' = 3 ∨ i' = 4 ∨ i' = 5 ∨ i' = 6 ∨ i' = 8) with rfl | rfl | rfl | rfl | rfl | rfl | rfl | rfl
                      · simp at ho
                        subst ho
                        clear hdep hA
                        go_simp
                        exact hK _ wb (Below.refl _ _) rfl
                      · simp at ho
                        subst ho
                        clear hdep hA
                        go_simp
                        exact hK _ wb (Below.refl _ _) rfl
                      · simp at ho
                        subst ho
                        clear hdep hA
                        go_simp
                        exact hK _ wb (Below.refl _ _) rfl
                      · simp at ho
                        subst ho
                        have z1 : ac.tmps[139]?.getD undef = .slice (some ⟨qb, qo, none⟩) pt.length qc := hdep { on := 1, ground := .data } (by simp) rfl
                        have z2 : ac.tmps[140]?.getD undef = .int .i64 i := hdep { on := 2, ground := .data } (by simp) rfl
                        clear hdep hA
                        go_simp
                        exact hK _ wb (Below.refl _ _) rfl
                      · simp at ho
                        subst ho
                        have z0 : ac.tmps[138]?.getD undef = .agg #[.int .i64 q0, .bool q1, .int .i64 q2, .string q3, .slice q4 q4l q4c, .slice q5 q5l q5c] := hdep { on := 0, ground := .data } (by simp) rfl
                        have z3 : ac.tmps[141]?.getD undef = .slice (some ⟨qb, qo, none⟩) i qc := hdep { on := 3, ground := .data } (by simp) rfl
                        clear hdep hA
                        go_simp
                        refine (GTD.out wb hB).mono ?_
                        rintro e w5 ⟨m0, m1, m2, m3, m4, m4l, m4c, m5, m5l, m5c, rfl, hf, hb⟩
                        exact hK _ w5 hb ⟨m0, m1, m2, m3, m4, m4l, m4c, m5, m5l, m5c, rfl, hf⟩
                      · simp at ho
                        subst ho
                        obtain ⟨m0, m1, m2, m3, m4, m4l, m4c, m5, m5l, m5c, z4, hf⟩ := hdep { on := 4, ground := .data } (by simp) rfl
                        have z4 : ac.tmps[142]?.getD undef = .tuple #[.agg #[.int .i64 m0, .bool m1, .int .i64 m2, .string m3, .slice m4 m4l m4c, .slice m5 m5l m5c], .bool true] := z4
                        clear hdep hA
                        go_simp
                        exact hK _ wb (Below.refl _ _) ⟨m0, m1, m2, m3, m4, m4l, m4c, m5, m5l, m5c, rfl, hf⟩
                      · simp at ho
                        subst ho
                        obtain ⟨m0, m1, m2, m3, m4, m4l, m4c, m5, m5l, m5c, z4, hf⟩ := hdep { on := 5, ground := .data } (by simp) rfl
                        have z4 : ac.tmps[137]?.getD undef = .tuple #[.agg #[.int .i64 m0, .bool m1, .int .i64 m2, .string m3, .slice m4 m4l m4c, .slice m5 m5l m5c], .bool true] := z4
                        clear hdep hA
                        go_simp
                        exact hK _ wb (Below.refl _ _) ⟨m0, m1, m2, m3, m4, m4l, m4c, m5, m5l, m5c, rfl, hf⟩
                      · simp at ho
                        subst ho
                        clear hdep hA
                        go_simp
                        exact hK _ _ ((Below.refl _ _).alloc (Nat.le_refl _) _) ⟨wb.heap.size, rfl, ZB.new wb, hB.size⟩
                    case s6 =>
                      intro i' o ac wb K' ho hi hL hA hdep hK
                      obtain rfl : i' = 7 := of_decide_eq_true hL
                      simp at ho
                      subst ho
                      obtain ⟨m0, m1, m2, m3, m4, m4l, m4c, m5, m5l, m5c, z4, hf⟩ := hdep { on := 5, ground := .data } (by simp) rfl
                      have z4 : ac.tmps[137]?.getD undef = .tuple #[.agg #[.int .i64 m0, .bool m1, .int .i64 m2, .string m3, .slice m4 m4l m4c, .slice m5 m5l m5c], .bool true] := z4
                      clear hdep hA
                      go_simp
                      exact hK _ rfl
                    case s7 =>
                      intro o ac wb K' ho hA hB hU hK
                      simp at ho
                      subst ho
                      obtain ⟨m0, m1, m2, m3, m4, m4l, m4c, m5, m5l, m5c, z6, hf⟩ := hU 6 (by omega) (by decide)
                      obtain ⟨g, z8, hzb, hg⟩ := hU 8 (by omega) (by decide)
                      have z6 : ac.tmps[143]?.getD undef = .agg #[.int .i64 m0, .bool m1, .int .i64 m2, .string m3, .slice m4 m4l m4c, .slice m5 m5l m5c] := z6
                      have z8' : ac.tmps[23]?.getD undef = .pointer (some ⟨g, 0, none⟩) := z8
                      have zc : ∀ j, wb.cell? ⟨g, j, none⟩ = (#[.int .i64 0, .bool false, .int .i64 0, .string ⟨#[]⟩, .slice none 0 0, .slice none 0 0] : Array Value)[j]? := hzb.cell
                      have zf := hzb.frozen
                      have hbx : Box6 (setRow wb g 0 [.int .i64 m0, .bool m1, .int .i64 m2, .string m3, .slice m4 m4l m4c, .slice m5 m5l m5c]) g #[.int .i64 m0, .bool m1, .int .i64 m2, .string m3, .slice m4 m4l m4c, .slice m5 m5l m5c] := row_box6 (zb_rows hzb [.int .i64 m0, .bool m1, .int .i64 m2, .string m3, .slice m4 m4l m4c, .slice m5 m5l m5c] rfl)
                      have hlt := hzb.lt
                      clear hU hA
                      go_simp
                      exact hK _ ⟨g, m0, m1, m2, m3, m4, m4l, m4c, m5, m5l, m5c, z8, hbx, hf, hg, by show _ < (setRow wb g 0 [.int .i64 m0, .bool m1, .int .i64 m2, .string m3, .slice m4 m4l m4c, .slice m5 m5l m5c]).heap.size; rw [setRow_size]; exact hlt, setRow_below g hg [.int .i64 m0, .bool m1, .int .i64 m2, .string m3, .slice m4 m4l m4c, .slice m5 m5l m5c] wb 0 hB⟩
                    case s8 =>
                      intro o ac wb K' ho hA hVV hK
                      simp at ho
                      subst ho
                      have z7 : ac.tmps[144]?.getD undef = .bool true := hVV 7 (by omega)
                      clear hVV hA
                      go_simp
                      exact hK _ rfl
                    case s9 =>
                      intro ac wn hA hVV hF
                      obtain ⟨g, m0, m1, m2, m3, m4, m4l, m4c, m5, m5l, m5c, z8, hbx, hf, hg, hgl, hbn⟩ := hF
                      have z9 := hVV 9 (by omega)
                      have hs : slots 10 (fun i' => match i' with | 0 => 138 | 1 => 139 | 2 => 140 | 3 => 141 | 4 => 142 | 5 => 137 | 6 => 143 | 7 => 144 | 8 => 23 | 9 => 24 | _ => 0) = [138, 139, 140, 141, 142, 137, 143, 144, 23, 24] := by rfl
                      rw [hs] at hA
                      have hac := hA.act (fun t ht => by
                        have h8 : t = 138 ∨ t = 139 ∨ t = 140 ∨ t = 141 ∨ t = 142 ∨ t = 137 ∨ t = 143 ∨ t = 144 ∨ t = 23 ∨ t = 24 := by simpa using ht
                        rcases h8 with rfl | rfl | rfl | rfl | rfl | rfl | rfl | rfl | rfl | rfl <;> exact Nat.lt_of_lt_of_le (by decide : _ < 162) (Nat.le_refl 162))
                      rw [List.foldl_cons, List.foldl_cons, List.foldl_cons, List.foldl_cons, List.foldl_cons, List.foldl_cons, List.foldl_cons, List.foldl_cons, List.foldl_cons, List.foldl_cons, List.foldl_nil] at hac
                      have z8 : sl ac 23 = .pointer (some ⟨g, 0, none⟩) := z8
                      have z9 : sl ac 24 = .bool true := z9
                      rw [z8, z9] at hac
                      generalize sl ac 138 = x138 at hac
                      generalize sl ac 139 = x139 at hac
                      generalize sl ac 140 = x140 at hac
                      generalize sl ac 141 = x141 at hac
                      generalize sl ac 142 = x142 at hac
                      generalize sl ac 137 = x137 at hac
                      generalize sl ac 143 = x143 at hac
                      generalize sl ac 144 = x144 at hac
                      clear hA hs hVV z8 z9
                      subst hac
                      simp only [Act.put, List.setIfInBounds_toArray, List.set_cons_succ, List.set_cons_zero]
                      have HB23 := hbx
                      have hf23 := hf
                      have HBN2 := Lib.hid hbn
                      obtain ⟨y0, y1, y2, y3, y4, y5⟩ := (HB21.out.later HBN2.out hgl21).six
                      obtain ⟨z0, z1, z2, z3, z4, z5⟩ := HB23.out.six
                      have hm5 : m0 = 5 := hf23.out
                      subst hm5
                      have HWN := Lib.hid (bstep HWX.out (bstep HBN1.out HBN2.out HBN1.out.size) HWX.out.size)
                      clear hf hbn hbx
                      cases qp with
                      | true =>
                        have hd5 : ((d5l : Int) == 0) = false := by
                          have := HF21.out rfl
                          rw [beq_eq_false_iff_ne]
                          omega
                        go_wp2_with fail
                        go_roundw
                        case rel => exact ⟨i + 1, by omega, by omega, by go_num, HWN.out⟩
                        case measure => simp [intOf]; omega
                      | false =>
                        go_wp2_with fail
                        go_roundw
                        case rel => exact ⟨i + 1, by omega, by omega, by go_num, HWN.out⟩
                        case measure => simp [intOf]; omega
                · obtain rfl : i = pt.length := by omega
                  have HFW := Lib.hid (bstep HF.out (bstep HRZ.out HWX.out HRZ.out.size) HF.out.size)
                  clear hil
                  go_wp2_with (go_at_call 7; refine (AW.out _ HFW.out).mono ?_; rintro e w3 ⟨rfl, hb3⟩)
                  go_ret
                  exact ⟨rfl, bstep HV.out hb3 HV.out.size⟩

end Go.Proofs.Ytfmlhdkodnbfaaa
