/-
  What is wrong with a value, part by part.
-/
import Derived.Test.YtbmlmcoepmbelaaDoorText
import Derived.Test.YtbmlmcoepmbelaaDoorSizes
import Derived.Deep.DeepCutAuto
set_option linter.unusedVariables false
set_option linter.unusedSimpArgs false
namespace Go.Proofs.YtbmlmcoepmbelaaDoor
open Go.RowKit

def kindBad (k : Int) (b : Bool) (n : Int) (e : Bool) (ll ml : Nat) : Bool :=
  decide (k < 0) || decide (5 < k) || ((!decide (k = 1)) && b) || ((!decide (k = 2)) && (!decide (n = 0))) || ((!decide (k = 3)) && !e) || ((!decide (k = 4)) && decide (0 < ll)) || ((!decide (k = 5)) && decide (0 < ml))

/-- The first that isn't 0. -/
def firstNZ : List Int → Int
  | [] => 0
  | x :: r => if x = 0 then firstNZ r else x
theorem firstNZ_hit : ∀ (l : List Int) (j : Nat) (h : j < l.length), (∀ i (hi : i < l.length), i < j → l[i] = 0) → l[j] ≠ 0 → firstNZ l = l[j]
  | x :: r, 0, _, _, h => by simp only [List.getElem_cons_zero] at h ⊢; rw [firstNZ, if_neg h]
  | x :: r, j + 1, hj, h0, h => by
    have hx : x = 0 := h0 0 (by simp) (by omega)
    rw [firstNZ, if_pos hx]
    simp only [List.getElem_cons_succ] at h ⊢
    exact firstNZ_hit r j (by simpa using hj) (fun i hi hij => by have := h0 (i + 1) (by simpa using hi) (by omega); simpa using this) h
theorem firstNZ_zero : ∀ (l : List Int), (∀ x ∈ l, x = 0) → firstNZ l = 0
  | [], _ => rfl
  | x :: r, h => by rw [firstNZ, if_pos (h x (by simp))]; exact firstNZ_zero r fun y hy => h y (by simp [hy])

/-- Go's '<=' on texts. -/
def leS (a b : ByteArray) : Bool := Op.bytesLess a.toList b.toList || a.toList == b.toList

theorem les_cases (a b : ByteArray) : (leS a b = true ∧ Op.bytesLess a.toList b.toList = true) ∨ (leS a b = true ∧ Op.bytesLess a.toList b.toList = false ∧ a.toList = b.toList) ∨ (leS a b = false ∧ Op.bytesLess a.toList b.toList = false ∧ (a.toList == b.toList) = false) := by
  unfold leS
  cases Op.bytesLess a.toList b.toList with
  | true => left; simp
  | false =>
    by_cases h : a.toList = b.toList
    · right; left; simp [h]
    · right; right; simp [h]

/-- Pairs of keys and of what is wrong with their values: what is wrong with pair j. -/
def codeAt (q : List (ByteArray × Int)) (j : Nat) : Int :=
  if keyB (q.getD j (⟨#[]⟩, 0)).1 = false then 7 else if (decide (0 < j) && leS (q.getD j (⟨#[]⟩, 0)).1 (q.getD (j - 1) (⟨#[]⟩, 0)).1) = true then 13 else (q.getD j (⟨#[]⟩, 0)).2
def partsP (q : List (ByteArray × Int)) : Int := firstNZ ((List.range q.length).map (codeAt q))
theorem partsP_hit (q : List (ByteArray × Int)) (j : Nat) (h : j < q.length) (h0 : ∀ i, i < j → codeAt q i = 0) (hn : codeAt q j ≠ 0) : partsP q = codeAt q j := by
  unfold partsP
  rw [firstNZ_hit _ j (by simpa using h) (fun i hi hij => by simpa using h0 i hij) (by simpa using hn)]
  simp
theorem partsP_zero (q : List (ByteArray × Int)) (h0 : ∀ i, i < q.length → codeAt q i = 0) : partsP q = 0 :=
  firstNZ_zero _ fun x hx => by
    obtain ⟨i, hi, rfl⟩ := List.mem_map.1 hx
    exact h0 i (by simpa using hi)

/-- What is wrong with a value, but for its depth and its size; 0: nothing is. -/
def T.parts : T → Int
  | .mk k b n s l m => if kindBad k b n s.toList.isEmpty l.length m.length = true then 8 else if textB s = false then 10 else
    if firstNZ (l.map T.parts) ≠ 0 then firstNZ (l.map T.parts) else partsP (m.map fun p => (p.1, p.2.parts))
termination_by t => t
decreasing_by
  all_goals first
    | exact T.lt_l ‹_›
    | exact T.lt_m ‹_›
theorem T.parts_mk (k : Int) (b : Bool) (n : Int) (s : ByteArray) (l : List T) (m : List (ByteArray × T)) : (T.mk k b n s l m).parts = if kindBad k b n s.toList.isEmpty l.length m.length = true then 8 else if textB s = false then 10 else
    if firstNZ (l.map T.parts) ≠ 0 then firstNZ (l.map T.parts) else partsP (m.map fun p => (p.1, p.2.parts)) := by
  rw [T.parts]

/-- What the map's pair j is worth. -/
def pcode (m : List (ByteArray × T)) (j : Nat) : Int := codeAt (m.map fun p => (p.1, p.2.parts)) j
theorem pcode_key (m : List (ByteArray × T)) (j : Nat) (h : j < m.length) (hk : keyB m[j].1 = false) : pcode m j = 7 := by
  unfold pcode codeAt
  rw [if_pos (by simpa [h] using hk)]
theorem pcode_twice (m : List (ByteArray × T)) (j : Nat) (h : j < m.length) (hk : keyB m[j].1 = true) (h0 : 0 < j) (hl : leS m[j].1 (m[j - 1]'(by omega)).1 = true) : pcode m j = 13 := by
  unfold pcode codeAt
  rw [if_neg (by simp [h, hk]), if_pos (by simp [h, show j - 1 < m.length by omega, h0, hl])]
theorem pcode_in (m : List (ByteArray × T)) (j : Nat) (h : j < m.length) (hk : keyB m[j].1 = true) (hl : ∀ h0 : 0 < j, leS m[j].1 (m[j - 1]'(by omega)).1 = false) : pcode m j = m[j].2.parts := by
  unfold pcode codeAt
  rw [if_neg (by simp [h, hk]), if_neg (by
    by_cases h0 : 0 < j
    · simp [h, show j - 1 < m.length by omega, hl h0]
    · simp [h0])]
  simp [h]

theorem parts_kind {k : Int} {b : Bool} {n : Int} {s : ByteArray} {l : List T} {m : List (ByteArray × T)} (h : kindBad k b n s.toList.isEmpty l.length m.length = true) : (T.mk k b n s l m).parts = 8 := by
  rw [T.parts_mk, if_pos h]
theorem parts_text {k : Int} {b : Bool} {n : Int} {s : ByteArray} {l : List T} {m : List (ByteArray × T)} (h : kindBad k b n s.toList.isEmpty l.length m.length = false) (ht : textB s = false) : (T.mk k b n s l m).parts = 10 := by
  rw [T.parts_mk, if_neg (by simp [h]), if_pos ht]
theorem parts_list {k : Int} {b : Bool} {n : Int} {s : ByteArray} {l : List T} {m : List (ByteArray × T)} (h : kindBad k b n s.toList.isEmpty l.length m.length = false) (ht : textB s = true) (j : Nat) (hj : j < l.length) (h0 : ∀ i (hi : i < l.length), i < j → l[i].parts = 0) (hn : l[j].parts ≠ 0) :
    (T.mk k b n s l m).parts = l[j].parts := by
  have e := firstNZ_hit (l.map T.parts) j (by simpa using hj) (fun i hi hij => by simpa using h0 i (by simpa using hi) hij) (by simpa using hn)
  rw [T.parts_mk, if_neg (by simp [h]), if_neg (by simp [ht]), e, if_pos (by simpa using hn)]
  simp
theorem parts_map {k : Int} {b : Bool} {n : Int} {s : ByteArray} {l : List T} {m : List (ByteArray × T)} (h : kindBad k b n s.toList.isEmpty l.length m.length = false) (ht : textB s = true) (h0 : ∀ i (hi : i < l.length), l[i].parts = 0) (j : Nat) (hj : j < m.length) (hp : ∀ i, i < j → pcode m i = 0) (hn : pcode m j ≠ 0) :
    (T.mk k b n s l m).parts = pcode m j := by
  have e := firstNZ_zero (l.map T.parts) (fun x hx => by obtain ⟨y, hy, rfl⟩ := List.mem_map.1 hx; obtain ⟨i, hi, rfl⟩ := List.getElem_of_mem hy; exact h0 i hi)
  rw [T.parts_mk, if_neg (by simp [h]), if_neg (by simp [ht]), e, if_neg (by simp)]
  exact partsP_hit _ j (by simpa using hj) hp hn
theorem parts_ok {k : Int} {b : Bool} {n : Int} {s : ByteArray} {l : List T} {m : List (ByteArray × T)} (h : kindBad k b n s.toList.isEmpty l.length m.length = false) (ht : textB s = true) (h0 : ∀ i (hi : i < l.length), l[i].parts = 0) (hp : ∀ i, i < m.length → pcode m i = 0) :
    (T.mk k b n s l m).parts = 0 := by
  have e := firstNZ_zero (l.map T.parts) (fun x hx => by obtain ⟨y, hy, rfl⟩ := List.mem_map.1 hx; obtain ⟨i, hi, rfl⟩ := List.getElem_of_mem hy; exact h0 i hi)
  rw [T.parts_mk, if_neg (by simp [h]), if_neg (by simp [ht]), e, if_neg (by simp)]
  exact partsP_zero _ (fun i hi => hp i (by simpa using hi))

theorem ne_form {a : Int} (h : a ≠ 0) : (a != 0) = true := by simp [h]

set_option maxHeartbeats 16000000 in
set_option maxRecDepth 100000 in
/-- The reference's parts: the great test at its head. -/
theorem rparts_any {w0 : World} {R : Nat → Prop} {t : T} {cs : Array Value} (h : Lies w0 R t cs) : ∀ w : World, Below w0.heap.size w0 w →
    Calls Tryd.prog 53 #[.agg cs] w fun e w' => e = .returned (.int .i64 t.parts) ∧ Below w.heap.size w w' := by
  induction h with
  | mk k b n s l m la lc ma mc cl cm hk hn hs hl hm rl rm ks il im ihl ihm =>
    intro w hw
    have ll := hl.le
    have lx := hl.big
    have ml := hm.le
    have mx := hm.big
    have HL := Lib.hid ihl
    have HM := Lib.hid ihm
    have RL := Lib.hid rl
    have RM := Lib.hid rm
    have KS := Lib.hid ks
    clear ihl ihm rl rm ks
    have S8 := Lib.hid (@parts_kind k b n s l m)
    have S10 := Lib.hid (@parts_text k b n s l m)
    have SL := Lib.hid (@parts_list k b n s l m)
    have SM := Lib.hid (@parts_map k b n s l m)
    have S0 := Lib.hid (@parts_ok k b n s l m)
    go_enter Tryd.func53, Tryd.ntmps53
    go_upto_region 1 with fail
    go_cut [65] (fun v wx => v = .bool (kindBad k b n s.toList.isEmpty l.length m.length) ∧ wx = w.alloc (.cells #[.int .i64 k, .bool b, .int .i64 n, .string s, .slice la l.length lc, .slice ma m.length mc] 25))
    case first =>
      clear HL HM RL RM KS S8 S10 SL SM S0 hl hm il im ll lx ml mx hk hn hs
      generalize l.length = ln at *
      generalize m.length = mn at *
      rcases (by omega : k < 0 ∨ 5 < k ∨ k = 0 ∨ k = 1 ∨ k = 2 ∨ k = 3 ∨ k = 4 ∨ k = 5) with hk | hk | rfl | rfl | rfl | rfl | rfl | rfl
      all_goals
        cases b
        all_goals
          go_wp2_with fail
          all_goals
            subst_vars
            go_meet
            case rel => exact ⟨congrArg Value.bool (by simp_all [kindBad]; try omega), rfl⟩
    case rest =>
      obtain ⟨rfl, rfl⟩ := hcut
      cases hkb : kindBad k b n s.toList.isEmpty l.length m.length with
      | true =>
        have K8 := Lib.hid hkb
        clear hkb
        go_wp2_with fail
        go_ret
        exact ⟨ret_int (S8.out K8.out).symm, (Below.refl _ _).alloc (Nat.le_refl _) _⟩
      | false =>
        have K8 := Lib.hid hkb
        clear hkb
        go_wp2_with fail
        refine (rText_any s hs _).mono ?_
        rintro e w1 ⟨rfl, rfl⟩
        cases htx : textB s with
        | false =>
          have K10 := Lib.hid htx
          clear htx
          go_wp2_with fail
          go_ret
          exact ⟨ret_int (S10.out K8.out K10.out).symm, (Below.refl _ _).alloc (Nat.le_refl _) _⟩
        | true =>
          have K10 := Lib.hid htx
          clear htx
          go_wp2_with fail
          go_loopw [3] (fun vi wr => ∃ j : Nat, j ≤ l.length ∧ vi = .int .i64 j ∧ Hid (∀ i (hi : i < l.length), i < j → l[i].parts = 0) ∧ Below (w.heap.size + 1) (w.alloc (.cells #[.int .i64 k, .bool b, .int .i64 n, .string s, .slice la l.length lc, .slice ma m.length mc] 25)) wr) (fun vi _ => l.length - (intOf vi).toNat)
          case atStart => exact ⟨0, by omega, rfl, fun i _ hi => absurd hi (Nat.not_lt_zero _), Below.refl _ _⟩
          case round =>
            obtain ⟨j, hj, rfl, h0, hbw⟩ := hrel
            have hsz := hbw.size
            rw [World.size_alloc] at hsz
            have hbw2 := bstep hw (bunbox hbw (Nat.le_refl _) (by omega)) hw.size
            have b4 := box_cell hbw (o := 4) (by omega) rfl
            by_cases hjl : j < l.length
            · have hi := HL.out j hjl
              have sl := SL.out K8.out K10.out j hjl h0.out
              obtain ⟨bl, ol, c0, c1, c2, c3, c4, c4l, c4c, c5, c5l, c5c, rfl, hc, r0, r1, r2, r3, r4, r5⟩ := openL hbw2 hl RL.out hjl (il j hjl)
              rw [hc] at hi
              have HI := Lib.hid hi
              have SLJ := Lib.hid sl
              clear hc hi sl
              by_cases hz : l[j].parts = 0
              · have HZ := Lib.hid hz
                have HZ2 : (l[j].parts != 0) = false := by rw [hz]; rfl
                clear hz
                go_wp2_with fail
                refine (HI.out _ hbw2).mono ?_
                rintro e w1 ⟨rfl, hb1⟩
                have hb2 := bstep hbw hb1 hsz
                go_wp2_with fail
                go_roundw
                case rel => exact ⟨j + 1, by omega, by go_num, fun i hi hij => by
                  by_cases e : i = j
                  · subst e; exact HZ.out
                  · exact h0.out i hi (by omega), hb2⟩
                case measure => simp [intOf]; omega
              · have HZ2 := ne_form hz
                have HZ := Lib.hid (SLJ.out hz)
                clear hz
                go_wp2_with fail
                refine (HI.out _ hbw2).mono ?_
                rintro e w1 ⟨rfl, hb1⟩
                have hb2 := bstep hbw hb1 hsz
                go_wp2_with fail
                go_ret
                exact ⟨ret_int HZ.out.symm, bunbox hb2 (Nat.le_refl _) (by omega)⟩
            · obtain rfl : j = l.length := by omega
              go_wp2_with fail
              obtain ⟨wo, rfl⟩ : ∃ wo : World, wo = wr := ⟨_, rfl⟩
              have HO := Lib.hid hbw
              have H0 : Hid (∀ i (hi : i < l.length), l[i].parts = 0) := fun i hi => h0.out i hi hi
              clear b4 h0
              go_loopw [5] (fun vi wr => ∃ j : Nat, j ≤ m.length ∧ vi = .int .i64 j ∧ Hid (∀ i, i < j → pcode m i = 0) ∧ Below wo.heap.size wo wr) (fun vi _ => m.length - (intOf vi).toNat)
              case atStart => exact ⟨0, by omega, rfl, fun i hi => absurd hi (Nat.not_lt_zero _), Below.refl _ _⟩
              case round =>
                obtain ⟨j, hj, rfl, hp, hbx⟩ := hrel
                have hbx2 := bstep hbw2 hbx hbw2.size
                have b5 := box_cell (bstep HO.out hbx (by have := HO.out.size; simp at this; omega)) (o := 5) (by omega) rfl
                have hend : Below w.heap.size w wr := bstep (bunbox HO.out (Nat.le_refl _) (by omega)) hbx (by have := HO.out.size; simp at this; omega)
                by_cases hjm : j < m.length
                · have hi := HM.out j hjm
                  have sm := SM.out K8.out K10.out H0.out j hjm hp.out
                  have hkj := KS.out j hjm
                  obtain ⟨bl, ol, c0, c1, c2, c3, c4, c4l, c4c, c5, c5l, c5c, rfl, hc, r0, r1, r2, r3, r4, r5, r6⟩ := openM hbx2 hm RM.out hjm (im j hjm)
                  rw [hc] at hi
                  have HI := Lib.hid hi
                  have SMJ := Lib.hid sm
                  clear hc hi sm
                  cases hky : keyB m[j].1 with
                  | false =>
                    have e7 := pcode_key m j hjm hky
                    have E7 := Lib.hid (SMJ.out (by rw [e7]; decide))
                    rw [e7] at E7
                    have HK := Lib.hid hky
                    clear hky e7
                    go_wp2_with fail
                    refine (rKey_any _ hkj _).mono ?_
                    rintro e w1 ⟨rfl, rfl⟩
                    rw [HK.out]
                    go_wp2_with fail
                    go_ret
                    exact ⟨ret_int E7.out.symm, hend⟩
                  | true =>
                    have HK := Lib.hid hky
                    clear hky
                    go_wp2_with fail
                    refine (rKey_any _ hkj _).mono ?_
                    rintro e w1 ⟨rfl, rfl⟩
                    rw [HK.out]
                    by_cases hj0 : 0 < j
                    · obtain ⟨_, _, _, _, _, _, _, _, _, _, _, _, hbl2, _, r0', _⟩ := openM hbx2 hm RM.out (show j - 1 < m.length by omega) (im (j - 1) (by omega))
                      obtain ⟨rfl, rfl⟩ : _ = _ ∧ _ = _ := by simpa using hbl2
                      have z1 : IntKind.i64.wrap ((j : Int) - 1) = (j : Int) - 1 := IntWalk.i64_in _ (by omega)
                      have z2 : (0 : Int) ≤ (j : Int) - 1 := by omega
                      have z3 : ((j : Int) - 1).toNat = j - 1 := by omega
                      have z4 : decide ((0 : Int) < (j : Int)) = true := by simp; omega
                      have et := pcode_twice m j hjm HK.out hj0
                      have ei := pcode_in m j hjm HK.out
                      have ET := Lib.hid et
                      have EI := Lib.hid ei
                      clear et ei
                      rcases les_cases m[j].1 (m[j - 1]'(by omega)).1 with ⟨hle, y1⟩ | ⟨hle, y1, y2⟩ | ⟨hle, y1, y2⟩
                      · have E13 := Lib.hid (SMJ.out (by rw [ET.out hle]; decide))
                        rw [ET.out hle] at E13
                        clear hle
                        go_wp2_with fail
                        go_quiet (fail)
                        go_wp2_with fail
                        go_ret
                        exact ⟨ret_int E13.out.symm, bdrewN hend _⟩
                      · have E13 := Lib.hid (SMJ.out (by rw [ET.out hle]; decide))
                        rw [ET.out hle] at E13
                        clear hle
                        go_wp2_with fail
                        go_quiet (fail)
                        go_wp2_with fail
                        go_ret
                        exact ⟨ret_int E13.out.symm, bdrewN hend _⟩
                      · have EP := Lib.hid (EI.out fun _ => hle)
                        clear hle
                        go_wp2_with fail
                        go_quiet (fail)
                        go_wp2_with fail
                        have hbx3 := bdrewN hbx2 nq
                        have hbx4 := bdrewN hbx nq
                        by_cases hz : m[j].2.parts = 0
                        · have HZ2 : (m[j].2.parts != 0) = false := by rw [hz]; rfl
                          have HZ := Lib.hid (EP.out.trans hz)
                          clear hz
                          refine (HI.out _ hbx3).mono ?_
                          rintro e w1 ⟨rfl, hb1⟩
                          have hb2 := bstep hbx4 hb1 hbx4.size
                          go_wp2_with fail
                          go_roundw
                          case rel => exact ⟨j + 1, by omega, by go_num, fun i hij => by
                            by_cases e : i = j
                            · subst e; exact HZ.out
                            · exact hp.out i (by omega), hb2⟩
                          case measure => simp [intOf]; omega
                        · have HZ2 := ne_form hz
                          have HZ := Lib.hid (SMJ.out (by rw [EP.out]; exact hz))
                          rw [EP.out] at HZ
                          clear hz
                          refine (HI.out _ hbx3).mono ?_
                          rintro e w1 ⟨rfl, hb1⟩
                          have hb2 := bstep (bdrewN hend nq) hb1 hend.size
                          go_wp2_with fail
                          go_ret
                          exact ⟨ret_int HZ.out.symm, hb2⟩
                    · obtain rfl : j = 0 := by omega
                      have z4 : decide ((0 : Int) < ((0 : Nat) : Int)) = false := by simp
                      have EP := Lib.hid (pcode_in m 0 hjm HK.out (fun h => absurd h (Nat.not_lt_zero _)))
                      go_wp2_with fail
                      go_quiet (fail)
                      go_wp2_with fail
                      have hbx3 := bdrewN hbx2 nq
                      have hbx4 := bdrewN hbx nq
                      by_cases hz : m[0].2.parts = 0
                      · have HZ2 : (m[0].2.parts != 0) = false := by rw [hz]; rfl
                        have HZ := Lib.hid (EP.out.trans hz)
                        clear hz
                        refine (HI.out _ hbx3).mono ?_
                        rintro e w1 ⟨rfl, hb1⟩
                        have hb2 := bstep hbx4 hb1 hbx4.size
                        go_wp2_with fail
                        go_roundw
                        case rel => exact ⟨1, by omega, rfl, fun i hij => by
                          obtain rfl : i = 0 := by omega
                          exact HZ.out, hb2⟩
                        case measure => simp [intOf]; omega
                      · have HZ2 := ne_form hz
                        have HZ := Lib.hid (SMJ.out (by rw [EP.out]; exact hz))
                        rw [EP.out] at HZ
                        clear hz
                        refine (HI.out _ hbx3).mono ?_
                        rintro e w1 ⟨rfl, hb1⟩
                        have hb2 := bstep (bdrewN hend nq) hb1 hend.size
                        go_wp2_with fail
                        go_ret
                        exact ⟨ret_int HZ.out.symm, hb2⟩
                · obtain rfl : j = m.length := by omega
                  have E0 := Lib.hid (S0.out K8.out K10.out H0.out hp.out)
                  go_wp2_with fail
                  go_ret
                  exact ⟨ret_int E0.out.symm, hend⟩

end Go.Proofs.YtbmlmcoepmbelaaDoor
