/-
  The library's stable sort of pairs, at whatever length.
-/
import Derived.Test.YthjdeckdklhphaaGreatDoorStabP
import Derived.Test.YthjdeckdklhphaaGreatDoorSym3
import Derived.Test.YthjdeckdklhphaaGreatDoorFnKeysM
import Derived.Test.YthjdeckdklhphaaGreatDoorOverSM
set_option linter.unusedVariables false
set_option linter.unusedSimpArgs false
namespace Go.Proofs.YthjdeckdklhphaaGreatDoor
open Go.RowKit Go.Sort

/-- Sorted, and what it was. -/
def StabIn (w : World) (base g n cap : Nat) (D : List E) (e : Ending) (w' : World) : Prop := e = .returned (.tuple #[]) ∧ (∃ Z, Srt Z ∧ Z.Perm D ∧ OwnQ w' base g n cap (Z.map (·.1))) ∧ w.grownBy w' (some g)

/-- The insertion sort of l pairs from a on. -/
theorem ins_at (base g n cap : Nat) (C : List E) (a l pb : Nat) (hpb : a + l = pb) (w : World) (h : OwnQ w base g n cap (C.map (·.1))) (hal : a + l ≤ n) (ht : Tgs (sg C a l)) (hn : n ≤ 1000000000) :
    Calls Tryz.prog 164 #[.slice (some ⟨g, 0, none⟩) n cap, .int .i64 a, .int .i64 pb, .func (Fn.func 111) #[] #[]] w fun e w' => e = .returned (.tuple #[]) ∧ (∃ Z, Srt Z ∧ Z.Perm (sg C a l) ∧ OwnQ w' base g n cap ((C.take a ++ (Z ++ C.drop pb)).map (·.1))) ∧ w.grownBy w' (some g) := by
  subst hpb
  have hl := h.len
  rw [List.length_map] at hl
  have h2 := h
  rw [cut3 C a l] at h2
  exact insertR_any base g n cap (C.take a) (sg C a l) (C.drop (a + l)) a (a + l) w h2 (by rw [List.length_take]; omega) (by rw [List.length_take, sg_len]; omega) ht hn
/-- The merge of two blocks. -/
theorem mrg_at (base g n cap : Nat) (C : List E) (a l l2 pb : Nat) (hpb : a + l + l2 = pb) (w : World) (h : OwnQ w base g n cap (C.map (·.1))) (hl0 : 0 < l) (hl2 : 0 < l2) (hal : a + l + l2 ≤ n) (hX : Srt (sg C a l)) (hY : Srt (sg C (a + l) l2)) (ht : ∀ x ∈ sg C a l, ∀ y ∈ sg C (a + l) l2, x.2 < y.2) (hn : n ≤ 1000000000) :
    Calls Tryz.prog 165 #[.slice (some ⟨g, 0, none⟩) n cap, .int .i64 a, .int .i64 ((a + l : Nat) : Int), .int .i64 pb, .func (Fn.func 111) #[] #[]] w fun e w' => e = .returned (.tuple #[]) ∧ (∃ Z, Srt Z ∧ Z.Perm (sg C a l ++ sg C (a + l) l2) ∧ OwnQ w' base g n cap ((C.take a ++ (Z ++ C.drop pb)).map (·.1))) ∧ w.grownBy w' (some g) := by
  subst hpb
  have hl := h.len
  rw [List.length_map] at hl
  have h2 := h
  rw [cut4 C a l l2] at h2
  have n1 : (sg C a l).length = l := by rw [sg_len]; omega
  have n2 : (sg C (a + l) l2).length = l2 := by rw [sg_len]; omega
  exact symMerge_any base g n cap hn (l + l2 + 1) (C.take a) (sg C a l) (sg C (a + l) l2) (C.drop (a + l + l2)) a (a + l) (a + l + l2) w (by omega) (by omega) (by omega) hX hY ht h2 (by rw [List.length_take]; omega) (by omega) (by omega)

set_option maxHeartbeats 4000000 in
set_option maxRecDepth 100000 in
theorem stable_any (base g n cap : Nat) (D : List E) (w : World) (h : OwnQ w base g n cap (D.map (·.1))) (ht : Tgs D) (hn : n ≤ 100000000) (hn0 : 0 < n) :
    Calls Tryz.prog 143 #[.slice (some ⟨g, 0, none⟩) n cap, .int .i64 n, .func (Fn.func 111) #[] #[]] w (StabIn w base g n cap D) := by
  have hdl := h.len
  rw [List.length_map] at hdl
  have HDL := Lib.hid hdl
  have HT := Lib.hid ht
  have HO0 := Lib.hid h
  have HW0 := Lib.hid (World.grownBy.refl w (some g))
  have HS0 : Hid ((∃ q, 0 = 20 * q) ∧ S1 D 0 D) := ⟨⟨0, rfl⟩, S1.start D⟩
  clear hdl ht h
  go_enter Tryz.func143, Tryz.ntmps143
  go_wp2_with fail
  go_loopw [7, 8] (fun vi vj wr => ∃ (a : Nat) (C : List E), vi = .int .i64 a ∧ vj = .int .i64 ((a + 20 : Nat) : Int) ∧ a ≤ n ∧ Hid ((∃ q, a = 20 * q) ∧ S1 D a C) ∧ Hid (OwnQ wr base g n cap (C.map (·.1))) ∧ Hid (w.grownBy wr (some g))) (fun vi _ _ => n - (intOf vi).toNat)
  case atStart => exact ⟨0, D, rfl, rfl, Nat.zero_le _, HS0, HO0, HW0⟩
  case round =>
    obtain ⟨a, C, rfl, rfl, han, HS, HO, HW⟩ := hrel
    clear HO0 HW0 HS0
    by_cases hb : a + 20 ≤ n
    · have f1 : decide (((a + 20 : Nat) : Int) ≤ (n : Int)) = true := decide_eq_true (by omega)
      have HI := Lib.hid (ins_at base g n cap C a 20 (a + 20) rfl wr HO.out hb (by rw [HS.out.2.sg_eq]; exact HT.out.sg a 20) (by omega))
      go_wp2_with fail
      refine HI.out.mono ?_
      rintro e w1 ⟨rfl, ⟨Z, hZ, hp, hO⟩, hG⟩
      have HF : Hid (∃ C2, ((∃ q, a + 20 = 20 * q) ∧ S1 D (a + 20) C2) ∧ OwnQ w1 base g n cap (C2.map (·.1))) := by
        obtain ⟨⟨q, hq⟩, hS⟩ := HS.out
        exact ⟨_, ⟨⟨q + 1, by omega⟩, hS.step hq (by rw [HDL.out]; exact hb) hZ hp⟩, hO⟩
      have HG := Lib.hid (grown_trans HW.out hG)
      clear hZ hp hO hG HI HS HO HW
      go_wp2_with fail
      go_roundw
      case rel =>
        obtain ⟨C2, h1, h2⟩ := HF.out
        exact ⟨a + 20, C2, rfl, by go_num, hb, h1, h2, HG⟩
      case measure => simp [intOf]; omega
    · have f1 : decide (((a + 20 : Nat) : Int) ≤ (n : Int)) = false := decide_eq_false (by omega)
      have HI := Lib.hid (ins_at base g n cap C a (n - a) n (by omega) wr HO.out (by omega) (by rw [HS.out.2.sg_eq]; exact HT.out.sg a _) (by omega))
      go_wp2_with fail
      refine HI.out.mono ?_
      rintro e w1 ⟨rfl, ⟨Z, hZ, hp, hO⟩, hG⟩
      have HF : Hid (∃ C2, S2 D 20 C2 ∧ OwnQ w1 base g n cap (C2.map (·.1))) := by
        obtain ⟨⟨q, hq⟩, hS⟩ := HS.out
        have hcl : C.length = n := hS.len.trans HDL.out
        rw [sg_all (by omega)] at hp
        rw [List.drop_of_length_le (by omega), List.append_nil] at hO
        obtain ⟨l2, hb2⟩ := hS.last hq (by rw [HDL.out]; exact han) (by rw [HDL.out]; omega) hZ hp
        exact ⟨_, ⟨l2, hb2⟩, hO⟩
      have HG := Lib.hid (grown_trans HW.out hG)
      clear hZ hp hO hG HI HS HO HW han hb f1
      go_wp2_with fail
      go_loopw [6] (fun vi wr => ∃ (bs : Nat) (C : List E), vi = .int .i64 bs ∧ 20 ≤ bs ∧ bs ≤ 2 * n + 20 ∧ Hid (S2 D bs C) ∧ Hid (OwnQ wr base g n cap (C.map (·.1))) ∧ Hid (w.grownBy wr (some g))) (fun vi _ => n - (intOf vi).toNat)
      case atStart =>
        obtain ⟨C2, h1, h2⟩ := HF.out
        exact ⟨20, C2, rfl, Nat.le_refl _, by omega, h1, h2, HG⟩
      case round =>
        clear HF HG
        obtain ⟨bs, C, rfl, hb1, hb2, HS, HO, HW⟩ := hrel
        by_cases hbn : bs < n
        · have f1 : decide ((bs : Int) < (n : Int)) = true := decide_eq_true (by omega)
          obtain ⟨d, hd⟩ : ∃ d, d = 2 * bs := ⟨_, rfl⟩
          have zd : (2 : Int) * (bs : Int) = (d : Int) := by omega
          have hd1 : d ≤ bs + bs := by omega
          have hd2 : bs + bs ≤ d := by omega
          have HD := Lib.hid hd
          have HS3 : Hid ((∃ q, 0 = 2 * bs * q) ∧ ∃ q, 0 = 2 * bs * q ∧ S3 D bs q C) := ⟨⟨0, by simp⟩, 0, by simp, HS.out.three⟩
          clear hd HS
          go_wp2_with fail
          go_loopw [7, 8] (fun vi vj wr => ∃ (a : Nat) (C : List E), vi = .int .i64 a ∧ vj = .int .i64 ((a + d : Nat) : Int) ∧ a ≤ n ∧ Hid (∃ q, a = 2 * bs * q ∧ S3 D bs q C) ∧ Hid (OwnQ wr base g n cap (C.map (·.1))) ∧ Hid (w.grownBy wr (some g))) (fun vi _ _ => n - (intOf vi).toNat)
          case atStart => exact ⟨0, C, rfl, by go_num, Nat.zero_le _, HS3.out.2, HO, HW⟩
          case round =>
            clear HO HW HS3
            clear C
            obtain ⟨a, C, rfl, rfl, han, HS, HO, HW⟩ := hrel
            have HPR : Hid (Blk D C a bs ∧ Blk D C (a + bs) bs) := by
              obtain ⟨q, hq, hS⟩ := HS.out
              exact hS.pair hq
            have HCL : Hid (C.length = n) := by
              obtain ⟨q, hq, hS⟩ := HS.out
              exact hS.len.trans HDL.out
            by_cases hb : a + d ≤ n
            · have f2 : decide (((a + d : Nat) : Int) ≤ (n : Int)) = true := decide_eq_true (by omega)
              have HI := Lib.hid (mrg_at base g n cap C a bs bs (a + d) (by omega) wr HO.out (by omega) (by omega) (by omega) HPR.out.1.1 HPR.out.2.1 (fun x hx y hy => HT.out.apart x (HPR.out.1.2.mem_iff.1 hx) y (HPR.out.2.2.mem_iff.1 hy)) (by omega))
              have e0 : a + bs + bs = a + d := by omega
              have E0 := Lib.hid e0
              clear e0
              have z1 : IntKind.i64.wrap ((a : Int) + (bs : Int)) = ((a + bs : Nat) : Int) := by rw [show (a : Int) + (bs : Int) = ((a + bs : Nat) : Int) by omega]; exact IntWalk.i64_in _ (by omega)
              go_wp2_with fail
              refine HI.out.mono ?_
              rintro e w1 ⟨rfl, ⟨Z, hZ, hp, hO⟩, hG⟩
              have HF : Hid (∃ C2, (∃ q, a + d = 2 * bs * q ∧ S3 D bs q C2) ∧ OwnQ w1 base g n cap (C2.map (·.1))) := by
                obtain ⟨q, hq, hS⟩ := HS.out
                rw [← E0.out] at hO
                exact ⟨_, ⟨q + 1, by rw [Nat.mul_add, Nat.mul_one, ← hq, HD.out], hS.step hq (by rw [HDL.out, E0.out]; exact hb) hZ hp⟩, hO⟩
              have HG := Lib.hid (grown_trans HW.out hG)
              clear hZ hp hO hG HI HS HO HW
              go_wp2_with fail
              go_roundw
              case rel =>
                obtain ⟨C2, h1, h2⟩ := HF.out
                exact ⟨a + d, C2, rfl, by go_num, hb, h1, h2, HG⟩
              case measure => simp [intOf]; omega
            · have f2 : decide (((a + d : Nat) : Int) ≤ (n : Int)) = false := decide_eq_false (by omega)
              have z1 : IntKind.i64.wrap ((a : Int) + (bs : Int)) = ((a + bs : Nat) : Int) := by rw [show (a : Int) + (bs : Int) = ((a + bs : Nat) : Int) by omega]; exact IntWalk.i64_in _ (by omega)
              by_cases hm : a + bs < n
              · have f3 : decide (((a + bs : Nat) : Int) < (n : Int)) = true := decide_eq_true (by omega)
                have HI := Lib.hid (mrg_at base g n cap C a bs (n - (a + bs)) n (by omega) wr HO.out (by omega) (by omega) (by omega) HPR.out.1.1 (by
                  have h4 := HPR.out.2.1
                  have hcl := HCL.out
                  rw [sg_all (by omega)] at h4 ⊢
                  exact h4) (fun x hx y hy => HT.out.apart x (HPR.out.1.2.mem_iff.1 hx) y (HPR.out.2.2.mem_iff.1 (by
                  have hcl := HCL.out
                  rw [sg_all (by omega)] at hy ⊢
                  exact hy))) (by omega))
                go_wp2_with fail
                refine HI.out.mono ?_
                rintro e w1 ⟨rfl, ⟨Z, hZ, hp, hO⟩, hG⟩
                have HF : Hid (∃ C2, S2 D d C2 ∧ OwnQ w1 base g n cap (C2.map (·.1))) := by
                  obtain ⟨q, hq, hS⟩ := HS.out
                  have hcl := HCL.out
                  rw [sg_all (C := C) (i := a + bs) (by omega)] at hp
                  rw [List.drop_of_length_le (by omega), List.append_nil] at hO
                  rw [HD.out]
                  exact ⟨_, hS.end1 hq (by rw [HDL.out]; exact hm) (by rw [HDL.out]; omega) hZ hp, hO⟩
                have HG := Lib.hid (grown_trans HW.out hG)
                clear hZ hp hO hG HI HS HO HW
                go_wp2_with fail
                go_roundw
                case rel =>
                  obtain ⟨C2, h1, h2⟩ := HF.out
                  exact ⟨d, C2, by go_num, by omega, by omega, h1, h2, HG⟩
                case measure => simp [intOf]; omega
              · have f3 : decide (((a + bs : Nat) : Int) < (n : Int)) = false := decide_eq_false (by omega)
                have HF : Hid (S2 D d C) := by
                  obtain ⟨q, hq, hS⟩ := HS.out
                  rw [HD.out]
                  exact hS.end0 hq (by rw [HDL.out]; omega)
                clear HS
                go_wp2_with fail
                go_roundw
                case rel => exact ⟨d, C, by go_num, by omega, by omega, HF, HO, HW⟩
                case measure => simp [intOf]; omega
        · have f1 : decide ((bs : Int) < (n : Int)) = false := decide_eq_false (by omega)
          have hdn := HS.out.done (by rw [HDL.out]; omega)
          have HF : Hid (∃ Z, Srt Z ∧ Z.Perm D ∧ OwnQ wr base g n cap (Z.map (·.1))) := ⟨C, hdn.1, hdn.2, HO.out⟩
          clear hdn
          go_wp2_with fail
          go_end0
          exact ⟨rfl, HF.out, HW.out⟩

end Go.Proofs.YthjdeckdklhphaaGreatDoor

/-
  Pairs put into a map: which stand there, and that their keys rise.
-/
set_option linter.unusedVariables false
set_option linter.unusedSimpArgs false
namespace Go.Proofs.YthjdeckdklhphaaGreatDoor
open Go.RowKit

theorem putR_mem {key : ByteArray} {x : T} : ∀ {m : Prs} {q : ByteArray × T}, q ∈ putR key x m → q = (key, x) ∨ q ∈ m
  | [], q, h => by
    rw [putR] at h
    exact .inl (by simpa using h)
  | p :: r, q, h => by
    rcases putR_cases p key with ⟨h1, _⟩ | h1 | ⟨h1, h2⟩
    · rw [putR_lt h1] at h
      rcases List.mem_cons.1 h with rfl | h
      · exact .inr (by simp)
      · rcases putR_mem h with h | h
        · exact .inl h
        · exact .inr (List.mem_cons_of_mem _ h)
    · rw [putR_eq h1] at h
      rcases List.mem_cons.1 h with rfl | h
      · exact .inl rfl
      · exact .inr (List.mem_cons_of_mem _ h)
    · rw [putR_gt h1 h2] at h
      rcases List.mem_cons.1 h with rfl | h
      · exact .inl rfl
      · exact .inr h
theorem putR_asc {key : ByteArray} {x : T} : ∀ {m : Prs}, Asc m → Asc (putR key x m)
  | [], _ => by
    rw [putR]
    exact List.pairwise_singleton _ _
  | p :: r, h => by
    rcases putR_cases p key with ⟨h1, _⟩ | h1 | ⟨h1, h2⟩
    · rw [putR_lt h1]
      refine List.pairwise_cons.2 ⟨fun q hq => ?_, putR_asc h.tail⟩
      rcases putR_mem hq with rfl | hq
      · exact h1
      · exact h.head q hq
    · rw [putR_eq h1]
      refine List.pairwise_cons.2 ⟨fun q hq => ?_, h.tail⟩
      have := h.head q hq
      rw [h1] at this
      exact this
    · rw [putR_gt h1 h2]
      have h3 := ltS_total h1 h2
      refine List.pairwise_cons.2 ⟨fun q hq => ?_, h⟩
      rcases List.mem_cons.1 hq with rfl | hq
      · exact h3
      · exact ltS_trans h3 (h.head q hq)
theorem putR_more (key : ByteArray) (x : T) : ∀ m : Prs, (putR key x m).length ≤ m.length + 1
  | [] => by rw [putR]; simp
  | p :: r => by
    rcases putR_cases p key with ⟨h1, _⟩ | h1 | ⟨h1, h2⟩
    · rw [putR_lt h1]
      have := putR_more key x r
      simp only [List.length_cons]; omega
    · rw [putR_eq h1]; simp
    · rw [putR_gt h1 h2]; simp
theorem at_someP : ∀ {m : Prs} (_ : Asc m) (j : Nat) (hj : j < m.length), findR m[j].1 m = some m[j].2
  | p :: r, _, 0, _ => findR_here rfl
  | p :: r, h, j + 1, hj => by
    have hj2 : j < r.length := by simpa using hj
    have h1 := (List.pairwise_cons.1 h).1 r[j] (List.getElem_mem hj2)
    rw [List.getElem_cons_succ, findR_skip (fun e => by rw [e, ltS_irr] at h1; cases h1)]
    exact at_someP (List.pairwise_cons.1 h).2 j hj2

end Go.Proofs.YthjdeckdklhphaaGreatDoor
