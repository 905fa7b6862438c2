/-
  The library's swapping of two ranges of pairs.
-/
import Derived.Test.YthjdeckdklhphaaGreatDoorSort
import Derived.BigRegion
import Derived.Deep.RegionHeld3
import Derived.Deep.CutRange
set_option linter.unusedVariables false
set_option linter.unusedSimpArgs false
namespace Go.Proofs.YthjdeckdklhphaaGreatDoor
open Go.RowKit Go.Sort

/-- Two rows change places; the one at p is written first. -/
theorem OwnQ.swapG {w : World} {base g n cap : Nat} {C : List Q} (h : OwnQ w base g n cap C) (p q : Nat) (hp : p < C.length) (hq : q < C.length) :
    OwnQ (setRow (setRow w g (p * 7) (qrow C[q]).toList) g (q * 7) (qrow C[p]).toList).drew base g n cap ((C.set p C[q]).set q C[p]) ∧
      w.grownBy (setRow (setRow w g (p * 7) (qrow C[q]).toList) g (q * 7) (qrow C[p]).toList).drew (some g) := by
  have hs := qrow_size h
  have s0 : (qrow C[p]).size = 7 := hs _ (List.mem_map.2 ⟨_, List.getElem_mem _, rfl⟩)
  have s1 : (qrow C[q]).size = 7 := hs _ (List.mem_map.2 ⟨_, List.getElem_mem _, rfl⟩)
  obtain ⟨o1, g1⟩ := own_setRow (qrow C[q]).toList w (p * 7) _ h.own
  obtain ⟨o2, g2⟩ := own_setRow (qrow C[p]).toList _ (q * 7) _ o1
  have e1 : setL (flatQ C) (p * 7) (qrow C[q]).toList = flatQ (C.set p C[q]) := by
    unfold flatQ
    rw [setL_flat _ hs p (by simpa using hp) _ s1, List.map_set]
  have hs2 : ∀ d ∈ (C.set p C[q]).map qrow, d.size = 7 := fun d hd => by
    rw [List.map_set] at hd
    rcases List.mem_or_eq_of_mem_set hd with h1 | rfl
    · exact hs d h1
    · exact s1
  have e2 : setL (flatQ (C.set p C[q])) (q * 7) (qrow C[p]).toList = flatQ ((C.set p C[q]).set q C[p]) := by
    unfold flatQ
    rw [setL_flat _ hs2 q (by simp; omega) _ s0, ← List.map_set]
  rw [e1, e2] at o2
  refine ⟨⟨by simp [h.len], o2.drew, fun i hi => ?_⟩, ?_⟩
  · have hm : ((C.set p C[q]).set q C[p])[i] ∈ C := by
      rcases List.mem_or_eq_of_mem_set (List.getElem_mem hi) with h1 | e
      · rcases List.mem_or_eq_of_mem_set h1 with h2 | e
        · exact h2
        · rw [e]; exact List.getElem_mem _
      · rw [e]; exact List.getElem_mem _
    obtain ⟨i', hi', e⟩ := List.getElem_of_mem hm
    rw [← e]
    exact h.six i' hi'
  · have g3 := grown_trans g1 g2
    exact ⟨g3.os, g3.tape, g3.output, g3.size, g3.block⟩

section
variable {α : Type}
theorem swap2 (U V W : List α) (a b : α) : ((U ++ (a :: (V ++ (b :: W)))).set U.length b).set (U.length + (1 + V.length)) a = U ++ (b :: (V ++ (a :: W))) := by
  rw [List.set_append_right _ _ (Nat.le_refl _), Nat.sub_self, List.set_cons_zero, List.set_append_right _ _ (by omega), Nat.add_sub_cancel_left, Nat.add_comm 1, List.set_cons_succ, List.set_append_right _ _ (Nat.le_refl _), Nat.sub_self, List.set_cons_zero]
/-- What stands behind i swaps of A and B. -/
def swF (P A M B S : List α) (i : Nat) : List α := P ++ ((B.take i ++ A.drop i) ++ (M ++ ((A.take i ++ B.drop i) ++ S)))
theorem swF_zero (P A M B S : List α) : swF P A M B S 0 = P ++ (A ++ (M ++ (B ++ S))) := by simp [swF]
theorem swF_all (P A M B S : List α) (h : A.length = B.length) : swF P A M B S A.length = P ++ (B ++ (M ++ (A ++ S))) := by
  unfold swF
  rw [List.take_of_length_le (by omega), List.drop_of_length_le (by omega), List.take_of_length_le (Nat.le_refl _), List.drop_of_length_le (by omega), List.append_nil, List.append_nil]
theorem swF_step (P A M B S : List α) (h : A.length = B.length) (i : Nat) (hi : i < A.length) (p q : Nat) (hp : p = P.length + i) (hq : q = P.length + A.length + M.length + i) (hpl : p < (swF P A M B S i).length) (hql : q < (swF P A M B S i).length) :
    ((swF P A M B S i).set p (swF P A M B S i)[q]).set q (swF P A M B S i)[p] = swF P A M B S (i + 1) := by
  have hb : i < B.length := by omega
  have e : swF P A M B S i = (P ++ B.take i) ++ (A[i] :: ((A.drop (i + 1) ++ (M ++ A.take i)) ++ (B[i] :: (B.drop (i + 1) ++ S)))) := by
    unfold swF
    rw [List.drop_eq_getElem_cons hi, List.drop_eq_getElem_cons hb]
    simp only [List.append_assoc, List.cons_append]
  have e2 : swF P A M B S (i + 1) = (P ++ B.take i) ++ (B[i] :: ((A.drop (i + 1) ++ (M ++ A.take i)) ++ (A[i] :: (B.drop (i + 1) ++ S)))) := by
    unfold swF
    rw [List.take_succ_eq_append_getElem hi, List.take_succ_eq_append_getElem hb]
    simp only [List.append_assoc, List.cons_append, List.nil_append, List.singleton_append]
  have l1 : (P ++ B.take i).length = p := by rw [List.length_append, List.length_take]; omega
  have l2 : (P ++ B.take i).length + (1 + (A.drop (i + 1) ++ (M ++ A.take i)).length) = q := by
    rw [l1]
    simp only [List.length_append, List.length_drop, List.length_take]
    omega
  have g1 : (swF P A M B S i)[p] = A[i] := by
    have : (swF P A M B S i)[p]? = some A[i] := by
      rw [e, List.getElem?_append_right (by omega), l1, Nat.sub_self]
      rfl
    rw [List.getElem?_eq_getElem hpl] at this
    exact Option.some.inj this
  have g2 : (swF P A M B S i)[q] = B[i] := by
    have : (swF P A M B S i)[q]? = some B[i] := by
      rw [e, List.getElem?_append_right (by omega), ← l2, Nat.add_sub_cancel_left, Nat.add_comm 1, List.getElem?_cons_succ, List.getElem?_append_right (Nat.le_refl _), Nat.sub_self]
      rfl
    rw [List.getElem?_eq_getElem hql] at this
    exact Option.some.inj this
  rw [g1, g2, e2, e, ← l2, ← l1]
  exact swap2 _ _ _ _ _
end

set_option maxHeartbeats 4000000 in
set_option maxRecDepth 100000 in
theorem swapR_any (base g n cap : Nat) (P A M B S : List Q) (pa pb k : Nat) (w : World) (h : OwnQ w base g n cap (P ++ (A ++ (M ++ (B ++ S))))) (hab : A.length = B.length) (hk : A.length = k) (hpa : P.length = pa) (hpb : P.length + A.length + M.length = pb) (hn : n ≤ 1000000000) (f : Value) :
    Calls Tryz.prog 191 #[.slice (some ⟨g, 0, none⟩) n cap, .int .i64 pa, .int .i64 pb, .int .i64 k, f] w fun e w' => e = .returned (.tuple #[]) ∧ OwnQ w' base g n cap (P ++ (B ++ (M ++ (A ++ S)))) ∧ w.grownBy w' (some g) := by
  have hl := h.len
  have hln : pb + k ≤ n := by
    simp only [List.length_append] at hl
    omega
  have hpk : pa + k ≤ pb := by omega
  have HSZ := Lib.hid (swF_zero P A M B S)
  have HSA := Lib.hid (swF_all P A M B S hab)
  have HST := Lib.hid (fun i (hi : i < A.length) p q (hp : p = pa + i) (hq : q = pb + i) hpl hql => swF_step P A M B S hab i hi p q (by omega) (by omega) hpl hql)
  have HK := Lib.hid hk
  rw [← HSZ.out] at h
  have H := Lib.hid h
  clear h hl hab hk hpa hpb
  go_enter Tryz.func191, Tryz.ntmps191
  go_wp2_with fail
  go_loopw [10] (fun vi wr => ∃ i : Nat, i ≤ k ∧ vi = .int .i64 i ∧ Hid (OwnQ wr base g n cap (swF P A M B S i)) ∧ Hid (w.grownBy wr (some g))) (fun vi _ => k - (intOf vi).toNat)
  case atStart => exact ⟨0, by omega, rfl, H, World.grownBy.refl _ _⟩
  case round =>
    obtain ⟨i, hik, rfl, HO, HG⟩ := hrel
    by_cases hlt : i < k
    · have hlen := HO.out.len
      obtain ⟨ka, b, m, s, la, ll, lc, ma, ml, mc, eC0, r0, r1, r2, r3, r4, r5, r6⟩ := HO.out.row (pa + i) (by omega)
      obtain ⟨k', b', m', s', la', ll', lc', ma', ml', mc', eC1, s0, s1, s2, s3, s4, s5, s6⟩ := HO.out.row (pb + i) (by omega)
      have fz : ∀ j, wr.frozen? ⟨g, j, none⟩ = false := fun j => HO.out.own.frozenAt j
      have z1 : IntKind.i64.wrap ((pa : Int) + (i : Int)) = ((pa + i : Nat) : Int) := by rw [show (pa : Int) + (i : Int) = ((pa + i : Nat) : Int) by omega]; exact IntWalk.i64_in _ (by omega)
      have z2 : IntKind.i64.wrap ((pb : Int) + (i : Int)) = ((pb + i : Nat) : Int) := by rw [show (pb : Int) + (i : Int) = ((pb + i : Nat) : Int) by omega]; exact IntWalk.i64_in _ (by omega)
      go_upto_region 3 with fail
      go_region
      obtain ⟨hSw, hGw⟩ := HO.out.swapG (pa + i) (pb + i) (by omega) (by omega)
      have er1 : (qrow (swF P A M B S i)[pb + i]).toList = [.string (swF P A M B S i)[pb + i].1, .int .i64 k', .bool b', .int .i64 m', .string s', .slice la' ll' lc', .slice ma' ml' mc'] := by simp [qrow, eC1]
      have er0 : (qrow (swF P A M B S i)[pa + i]).toList = [.string (swF P A M B S i)[pa + i].1, .int .i64 ka, .bool b, .int .i64 m, .string s, .slice la ll lc, .slice ma ml mc] := by simp [qrow, eC0]
      rw [er0, er1] at hSw hGw
      rw [HST.out i (by rw [HK.out]; exact hlt) (pa + i) (pb + i) rfl rfl (by omega) (by omega)] at hSw
      have hGw2 := grown_trans HG.out hGw
      refine (?_ : Exit.inBlock 1 _ _ _ (setRow (setRow wr g ((pa + i) * 7) [.string (swF P A M B S i)[pb + i].1, .int .i64 k', .bool b', .int .i64 m', .string s', .slice la' ll' lc', .slice ma' ml' mc']) g ((pb + i) * 7) [.string (swF P A M B S i)[pa + i].1, .int .i64 ka, .bool b, .int .i64 m, .string s, .slice la ll lc, .slice ma ml mc]).drew)
      generalize (setRow (setRow wr g ((pa + i) * 7) [.string (swF P A M B S i)[pb + i].1, .int .i64 k', .bool b', .int .i64 m', .string s', .slice la' ll' lc', .slice ma' ml' mc']) g ((pb + i) * 7) [.string (swF P A M B S i)[pa + i].1, .int .i64 ka, .bool b, .int .i64 m, .string s, .slice la ll lc, .slice ma ml mc]).drew = w2 at hSw hGw2 ⊢
      have HSW := Lib.hid hSw
      have HGW := Lib.hid hGw2
      clear r0 r1 r2 r3 r4 r5 r6 s0 s1 s2 s3 s4 s5 s6 fz hSw hGw hGw2 er0 er1 z1 z2
      go_wp2_with fail
      go_roundw
      case rel => exact ⟨i + 1, by omega, by go_num, HSW, HGW⟩
      case measure => simp [intOf]; omega
    · obtain rfl : i = k := by omega
      have hO := HO.out
      rw [← HK.out, HSA.out] at hO
      have HF := Lib.hid hO
      clear hO
      go_wp2_with fail
      go_end0
      exact ⟨rfl, HF.out, HG.out⟩

end Go.Proofs.YthjdeckdklhphaaGreatDoor

/-
  The library's rotation of two ranges of pairs.
-/
set_option linter.unusedVariables false
set_option linter.unusedSimpArgs false
namespace Go.Proofs.YthjdeckdklhphaaGreatDoor
open Go.RowKit Go.Sort

theorem take_drop_app {α : Type} (j : Nat) (U X : List α) : U.take j ++ (U.drop j ++ X) = U ++ X := by rw [← List.append_assoc, List.take_append_drop]
/-- Two ranges, still to change places; behind it the rows are F. -/
def RotS (w0 : World) (base g n cap m i j : Nat) (F : List Q) (w : World) : Prop := ∃ (P U V S : List Q), U.length = i ∧ V.length = j ∧ P.length + i = m ∧ OwnQ w base g n cap (P ++ (U ++ (V ++ S))) ∧ P ++ (V ++ (U ++ S)) = F ∧ w0.grownBy w (some g)

set_option maxHeartbeats 1000000 in
set_option maxRecDepth 100000 in
theorem rot_any (base g n cap : Nat) (P U V S : List Q) (pa m pb : Nat) (w : World) (h : OwnQ w base g n cap (P ++ (U ++ (V ++ S)))) (hpa : P.length = pa) (hm : P.length + U.length = m) (hpb : P.length + U.length + V.length = pb) (hU : 0 < U.length) (hV : 0 < V.length) (hn : n ≤ 1000000000) :
    Calls Tryz.prog 184 #[.slice (some ⟨g, 0, none⟩) n cap, .int .i64 pa, .int .i64 m, .int .i64 pb, .func (Fn.func 111) #[] #[]] w fun e w' => e = .returned (.tuple #[]) ∧ OwnQ w' base g n cap (P ++ (V ++ (U ++ S))) ∧ w.grownBy w' (some g) := by
  have hl := h.len
  have hln : pb ≤ n := by
    simp only [List.length_append] at hl
    omega
  have H : Hid (RotS w base g n cap m U.length V.length (P ++ (V ++ (U ++ S))) w) := ⟨P, U, V, S, rfl, rfl, hm, h, rfl, World.grownBy.refl _ _⟩
  obtain ⟨F, hF⟩ : ∃ F, F = P ++ (V ++ (U ++ S)) := ⟨_, rfl⟩
  rw [← hF] at H ⊢
  obtain ⟨ui, hui⟩ : ∃ k, k = U.length := ⟨_, rfl⟩
  obtain ⟨vj, hvj⟩ : ∃ k, k = V.length := ⟨_, rfl⟩
  rw [← hui] at H hU
  rw [← hvj] at H hV
  have e1 : pa + ui = m := by omega
  have e2 : m + vj = pb := by omega
  have z1 : IntKind.i64.wrap ((m : Int) - (pa : Int)) = (ui : Int) := by rw [show (m : Int) - (pa : Int) = (ui : Int) by omega]; exact IntWalk.i64_in _ (by omega)
  have z2 : IntKind.i64.wrap ((pb : Int) - (m : Int)) = (vj : Int) := by rw [show (pb : Int) - (m : Int) = (vj : Int) by omega]; exact IntWalk.i64_in _ (by omega)
  clear h hl hF hpa hm hpb hui hvj
  go_enter Tryz.func184, Tryz.ntmps184
  go_wp2_with fail
  go_loopw [10, 11] (fun vi vj wr => ∃ (i j : Nat), vi = .int .i64 i ∧ vj = .int .i64 j ∧ 0 < i ∧ 0 < j ∧ i ≤ m ∧ m + j ≤ n ∧ Hid (RotS w base g n cap m i j F wr)) (fun vi vj _ => (intOf vi).toNat + (intOf vj).toNat)
  case atStart => exact ⟨ui, vj, by congr 1, by congr 1, hU, hV, by omega, by omega, H⟩
  case round =>
    obtain ⟨i, j, rfl, rfl, hi, hj, him, hjn, HS⟩ := hrel
    obtain ⟨P', U', V', S', hu, hv, hp, hO, hE, hG⟩ := HS.out
    have HO := Lib.hid hO
    have HE := Lib.hid hE
    have HG := Lib.hid hG
    obtain ⟨pl, hpl⟩ : ∃ k, k = P'.length := ⟨_, rfl⟩
    have hpm : pl + i = m := by omega
    have HU := Lib.hid hu
    have HV := Lib.hid hv
    have HP := Lib.hid hpl
    clear hO hE hG HS hu hv hp hpl
    by_cases hij : i = j
    · subst hij
      have f1 : ((i : Int) != (i : Int)) = false := by simp
      have HW := Lib.hid (swapR_any base g n cap P' U' [] V' S' pl m i wr HO.out (HU.out.trans HV.out.symm) HU.out HP.out.symm (by rw [HU.out, ← HP.out]; exact hpm) hn (.func (Fn.func 111) #[] #[]))
      go_wp2_with fail
      rw [show (m : Int) - (i : Int) = (pl : Int) by omega]
      refine HW.out.mono ?_
      rintro e w1 ⟨rfl, hO, hG⟩
      have hO2 := hO
      rw [List.nil_append, HE.out] at hO2
      have HF := Lib.hid hO2
      have HG2 := Lib.hid (grown_trans HG.out hG)
      clear hO hO2 hG HO HE HG HW
      go_wp2_with fail
      go_end0
      exact ⟨rfl, HF.out, HG2.out⟩
    · have f1 : ((i : Int) != (j : Int)) = true := bne_iff_ne.2 (by omega)
      by_cases hgt : j < i
      · have f2 : ((i : Int) > (j : Int)) := by omega
        have hO := HO.out
        rw [← take_drop_app j U' (V' ++ S')] at hO
        have l1 : (U'.take j).length = j := by rw [List.length_take, HU.out]; omega
        have l2 : (U'.drop j).length = i - j := by rw [List.length_drop, HU.out]
        have HW := Lib.hid (swapR_any base g n cap P' (U'.take j) (U'.drop j) V' S' pl m j wr hO (l1.trans HV.out.symm) l1 HP.out.symm (by rw [l1, l2, ← HP.out]; omega) hn (.func (Fn.func 111) #[] #[]))
        have HL1 := Lib.hid l1
        have HL2 := Lib.hid l2
        clear hO l1 l2
        go_wp2_with fail
        rw [show (m : Int) - (i : Int) = (pl : Int) by omega]
        refine HW.out.mono ?_
        rintro e w1 ⟨rfl, hO, hG⟩
        have NS : Hid (RotS w base g n cap m (i - j) j F w1) := by
          refine ⟨P' ++ V', U'.drop j, U'.take j, S', HL2.out, HL1.out, ?_, ?_, ?_, grown_trans HG.out hG⟩
          · rw [List.length_append, HV.out, ← HP.out]; omega
          · rw [List.append_assoc]; exact hO
          · rw [← HE.out, List.append_assoc]
            congr 2
            exact take_drop_app j U' S'
        clear hO hG HO HE HG HW
        go_wp2_with fail
        go_roundw
        case rel => exact ⟨i - j, j, by go_num, rfl, by omega, hj, by omega, hjn, NS⟩
        case measure => simp [intOf]; omega
      · have f2 : ¬ ((i : Int) > (j : Int)) := by omega
        have hO := HO.out
        rw [← take_drop_app (j - i) V' S'] at hO
        have l1 : (V'.take (j - i)).length = j - i := by rw [List.length_take, HV.out]; omega
        have l2 : (V'.drop (j - i)).length = i := by rw [List.length_drop, HV.out]; omega
        have HW := Lib.hid (swapR_any base g n cap P' U' (V'.take (j - i)) (V'.drop (j - i)) S' pl (m + (j - i)) i wr hO (HU.out.trans l2.symm) HU.out HP.out.symm (by rw [l1, HU.out, ← HP.out]; omega) hn (.func (Fn.func 111) #[] #[]))
        have HL1 := Lib.hid l1
        have HL2 := Lib.hid l2
        clear hO l1 l2
        go_wp2_with fail
        rw [show (m : Int) - (i : Int) = (pl : Int) by omega, show (m : Int) + (j : Int) - (i : Int) = ((m + (j - i) : Nat) : Int) by omega]
        refine HW.out.mono ?_
        rintro e w1 ⟨rfl, hO, hG⟩
        have NS : Hid (RotS w base g n cap m i (j - i) F w1) := by
          refine ⟨P', V'.drop (j - i), V'.take (j - i), U' ++ S', HL2.out, HL1.out, by rw [← HP.out]; exact hpm, hO, ?_, grown_trans HG.out hG⟩
          rw [← HE.out]
          congr 1
          exact take_drop_app (j - i) V' (U' ++ S')
        clear hO hG HO HE HG HW
        go_wp2_with fail
        go_roundw
        case rel => exact ⟨i, j - i, rfl, by go_num, hi, by omega, him, by omega, NS⟩
        case measure => simp [intOf]; omega

end Go.Proofs.YthjdeckdklhphaaGreatDoor
