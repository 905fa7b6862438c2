/-
  How large what is laid over each other is.
-/
import Derived.Test.YtlniokpekcoodaaGreatDoorPathCM
import Derived.Test.YtlniokpekcoodaaGreatDoorLaid
import Derived.Test.YtlniokpekcoodaaGreatDoorPathGM
import Derived.Test.YtlniokpekcoodaaGreatDoorVals
set_option linter.unusedVariables false
namespace Go.Proofs.YtlniokpekcoodaaGreatDoor
open Go.RowKit Go.Sort

def szR (ps : Prs) : Nat := (ps.map fun p => p.2.size).sum
theorem szR_nil : szR [] = 0 := rfl
theorem szR_cons (p : ByteArray × T) (r : Prs) : szR (p :: r) = p.2.size + szR r := by simp [szR]
theorem szR_append (a b : Prs) : szR (a ++ b) = szR a + szR b := by simp [szR]
theorem nil_size : T.nil.size = 1 := by unfold T.nil; rw [T.size_mk]; simp

theorem cut_sz (key : ByteArray) : ∀ ps : Prs, szR (cutB key ps) + (cutH key ps).size + szR (cutA key ps) ≤ szR ps + 1
  | [] => by rw [cutB, cutH, cutA, nil_size, szR_nil]; omega
  | p :: r => by
    have := cut_sz key r
    rw [cutB, cutH, cutA]
    by_cases h : ltS p.1 key = true
    · rw [if_pos h, if_pos h, if_pos h, szR_cons, szR_cons]; omega
    · rw [if_neg h, if_neg h, if_neg h, szR_nil]
      by_cases e : p.1 = key
      · rw [if_pos e, if_pos e, szR_cons]; omega
      · rw [if_neg e, if_neg e, nil_size]; omega

theorem overR_sz {m : Prs} (ih : ∀ p ∈ m, ∀ t : T, (T.over t p.2).size + 1 ≤ t.size + p.2.size) : ∀ rest : Prs, szR (overR rest m) ≤ szR rest + szR m := by
  induction m with
  | nil => intro rest; rw [overR_nil]; omega
  | cons p r ihr =>
    intro rest
    have h1 := ihr (fun q hq => ih q (by simp [hq])) (cutA p.1 rest)
    have h2 := cut_sz p.1 rest
    have h3 := ih p (by simp) (cutH p.1 rest)
    have h4 := size_posL (cutH p.1 rest)
    rw [overR_cons, szR_append, szR_append, szR_cons]
    by_cases h0 : p.2.kind = 0
    · rw [if_pos h0, szR_nil]; omega
    · rw [if_neg h0, szR_cons, szR_nil]
      dsimp only
      omega

theorem pairs_sz (t : T) : 1 + szR t.pairs ≤ t.size := by
  cases t with
  | mk k b n s l m =>
    rw [T.size_mk]
    by_cases h : k = 5
    · rw [show (T.mk k b n s l m).pairs = m from if_pos h]
      unfold szR
      omega
    · rw [show (T.mk k b n s l m).pairs = [] from if_neg h, szR_nil]
      omega

theorem over_sz (u : T) : ∀ t : T, (T.over t u).size + 1 ≤ t.size + u.size := by
  induction u using T.ind with
  | h k b n s l m hl hm =>
    intro t
    have hp := pairs_sz t
    by_cases h : k = 5
    · subst h
      have := overR_sz hm t.pairs
      rw [over_map, T.size_mk, T.size_mk]
      unfold szR at *
      simp only [List.map_nil, List.sum_nil]
      omega
    · rw [over_other _ b n s l m h]
      omega

end Go.Proofs.YtlniokpekcoodaaGreatDoor

/-
  Values stand in one order.
-/
set_option linter.unusedVariables false
set_option linter.unusedSimpArgs false
namespace Go.Proofs.YtlniokpekcoodaaGreatDoor
open Go.RowKit

/-- x stands well in the order f. -/
structure OrdAt {α : Type} (f : α → α → Int) (x : α) : Prop where
  refl : f x x = 0
  anti : ∀ y, f y x = -(f x y)
  same : ∀ y z, f x y = 0 → f x z = f y z
  less : ∀ y z, f x y < 0 → f y z ≤ 0 → f x z < 0

theorem OrdAt.le {α : Type} {f : α → α → Int} {x : α} (h : OrdAt f x) (y z : α) (h1 : f x y ≤ 0) (h2 : f y z ≤ 0) : f x z ≤ 0 := by
  by_cases h0 : f x y = 0
  · rw [h.same y z h0]; exact h2
  · have := h.less y z (by omega) h2; omega

section
variable {α : Type} (f : α → α → Int)
end

/-- Bytes, one by one. -/
def cmpU (a b : UInt8) : Int := cmpI a.toNat b.toNat
def T.bo : T → Bool | .mk _ b _ _ _ _ => b
def T.nu : T → Int | .mk _ _ n _ _ _ => n
def T.st : T → ByteArray | .mk _ _ _ s _ _ => s
def T.li : T → List T | .mk _ _ _ _ l _ => l
def T.ma : T → List (ByteArray × T) | .mk _ _ _ _ _ m => m

/-- The content of two values of one kind. -/
def cont (k : Int) (t u : T) : Int :=
  if k = 1 then cmpB t.bo u.bo else if k = 2 then cmpI t.nu u.nu else if k = 3 then cmpS t.st u.st else if k = 4 then cmpG T.cmp t.li u.li else if k = 5 then cmpG cmpP t.ma u.ma else 0
end Go.Proofs.YtlniokpekcoodaaGreatDoor

/-
  Which texts, and which keys, may be.
-/
set_option linter.unusedVariables false
set_option linter.unusedSimpArgs false
namespace Go.Proofs.YtlniokpekcoodaaGreatDoor
open Go.RowKit

def badByte (c : Nat) : Bool := (decide (c < 32) || decide (126 < c)) && (!decide (c = 9)) && (!decide (c = 10))
def textB (s : ByteArray) : Bool := decide (s.size ≤ 65536) && s.data.toList.all fun c => !badByte c.toNat
def noBad (s : ByteArray) (j : Nat) : Bool := (s.data.toList.take j).all fun c => !badByte c.toNat
theorem noBad_zero (s : ByteArray) : noBad s 0 = true := by simp [noBad]
theorem noBad_succ (s : ByteArray) (j : Nat) (h : j < s.size) : noBad s (j + 1) = (noBad s j && !badByte (s[j]).toNat) := by
  unfold noBad
  rw [List.take_succ_eq_append_getElem (by simpa using h), List.all_append]
  simp
  rfl

theorem textB_bad (s : ByteArray) (j : Nat) (h : j < s.size) (hb : badByte (s[j]).toNat = true) : textB s = false := by
  unfold textB
  rw [Bool.and_eq_false_iff]
  right
  rw [List.all_eq_false]
  exact ⟨s[j], by simp [ByteArray.getElem_eq_getElem_data], by simp [hb]⟩
theorem textB_good (s : ByteArray) (h : noBad s s.size = true) : textB s = decide (s.size ≤ 65536) := by
  unfold textB
  unfold noBad at h
  rw [List.take_of_length_le (by simp)] at h
  rw [h, Bool.and_true]
theorem textB_long (s : ByteArray) (h : 65536 < s.size) : textB s = false := by
  unfold textB
  rw [decide_eq_false (by omega), Bool.false_and]

theorem byte_cases (c : Nat) : (badByte c = false ∧ (c : Int) < 32 ∧ ((c : Int) != 9) = false) ∨ (badByte c = false ∧ (c : Int) < 32 ∧ ((c : Int) != 9) = true ∧ ((c : Int) != 10) = false) ∨ (badByte c = false ∧ 32 ≤ (c : Int) ∧ (c : Int) ≤ 126) ∨
    (badByte c = true ∧ (c : Int) < 32 ∧ ((c : Int) != 9) = true ∧ ((c : Int) != 10) = true) ∨ (badByte c = true ∧ 126 < (c : Int) ∧ ((c : Int) != 9) = true ∧ ((c : Int) != 10) = true) := by
  simp only [badByte, bne_iff_ne, bne_eq_false_iff_eq, Bool.and_eq_true, Bool.or_eq_true, Bool.and_eq_false_iff, Bool.or_eq_false_iff, decide_eq_true_eq, decide_eq_false_iff_not, Bool.not_eq_true', Bool.not_eq_false', ne_eq]
  omega

set_option maxHeartbeats 400000 in
theorem rText_any (s : ByteArray) (hs : s.size ≤ 140737488355328) (w : World) :
    Calls Tryz.prog 7 #[.string s] w fun e w' => e = .returned (.bool (textB s)) ∧ w = w' := by
  have HG := Lib.hid (textB_good s)
  go_enter Tryz.func7, Tryz.ntmps7
  go_wp2_with fail
  go_loop [3] (fun vi => ∃ j : Nat, j ≤ s.size ∧ vi = .int .i64 j ∧ noBad s j = true) (fun vi => s.size - (intOf vi).toNat)
  case atStart => exact ⟨0, by omega, rfl, noBad_zero s⟩
  case round =>
    obtain ⟨j, hj, rfl, hb⟩ := hrel
    have HB := Lib.hid hb
    clear hb
    by_cases hjl : j < s.size
    · have HS := Lib.hid (noBad_succ s j hjl)
      have HT := Lib.hid (textB_bad s j hjl)
      rcases byte_cases (s[j]).toNat with ⟨hb, q1, q2⟩ | ⟨hb, q1, q2, q3⟩ | ⟨hb, q1, q2⟩ | ⟨hb, q1, q2, q3⟩ | ⟨hb, q1, q2, q3⟩
      all_goals
        have HC := Lib.hid hb
        clear hb
        go_wp2_with fail
        first
          | (go_ret; exact ⟨ret_bool (HT.out HC.out).symm, rfl⟩)
          | (go_round
             case rel => exact ⟨j + 1, by omega, by go_num, by rw [HS.out, HB.out, HC.out]; rfl⟩
             case measure => simp [intOf]; omega)
    · obtain rfl : j = s.size := by omega
      go_wp2_with fail
      go_ret
      exact ⟨ret_bool (by rw [HG.out HB.out]; exact decide_eq_decide.2 (by omega)), rfl⟩

set_option maxHeartbeats 400000 in
theorem tText_any (s : ByteArray) (hs : s.size ≤ 140737488355328) (w : World) :
    Calls Tryz.prog 115 #[.string s] w fun e w' => e = .returned (.bool (textB s)) ∧ w = w' := by
  have HG := Lib.hid (textB_good s)
  have HL := Lib.hid (textB_long s)
  by_cases hlen : 65536 < s.size
  · go_enter Tryz.func115, Tryz.ntmps115
    go_wp2_with fail
    go_ret
    exact ⟨ret_bool (HL.out hlen).symm, rfl⟩
  go_enter Tryz.func115, Tryz.ntmps115
  go_wp2_with fail
  go_loop [10] (fun vi => ∃ j : Nat, j ≤ s.size ∧ vi = .int .i64 j ∧ noBad s j = true) (fun vi => s.size - (intOf vi).toNat)
  case atStart => exact ⟨0, by omega, rfl, noBad_zero s⟩
  case round =>
    obtain ⟨j, hj, rfl, hb⟩ := hrel
    have HB := Lib.hid hb
    clear hb
    by_cases hjl : j < s.size
    · have HS := Lib.hid (noBad_succ s j hjl)
      have HT := Lib.hid (textB_bad s j hjl)
      rcases byte_cases (s[j]).toNat with ⟨hb, q1, q2⟩ | ⟨hb, q1, q2, q3⟩ | ⟨hb, q1, q2⟩ | ⟨hb, q1, q2, q3⟩ | ⟨hb, q1, q2, q3⟩
      all_goals
        have HC := Lib.hid hb
        clear hb
        go_wp2_with fail
        first
          | (go_ret; exact ⟨ret_bool (HT.out HC.out).symm, rfl⟩)
          | (go_round
             case rel => exact ⟨j + 1, by omega, by go_num, by rw [HS.out, HB.out, HC.out]; rfl⟩
             case measure => simp [intOf]; omega)
    · obtain rfl : j = s.size := by omega
      go_wp2_with fail
      go_ret
      exact ⟨ret_bool (by rw [HG.out HB.out]; exact (decide_eq_true (by omega)).symm), rfl⟩

/-- May a key be so? -/
def badKey (c : Nat) : Bool := decide (c < 32) || decide (126 < c)
def keyB (s : ByteArray) : Bool := decide (1 ≤ s.size) && decide (s.size ≤ 256) && s.data.toList.all fun c => !badKey c.toNat
def noBadKey (s : ByteArray) (j : Nat) : Bool := (s.data.toList.take j).all fun c => !badKey c.toNat
theorem noBadKey_zero (s : ByteArray) : noBadKey s 0 = true := by simp [noBadKey]
theorem noBadKey_succ (s : ByteArray) (j : Nat) (h : j < s.size) : noBadKey s (j + 1) = (noBadKey s j && !badKey (s[j]).toNat) := by
  unfold noBadKey
  rw [List.take_succ_eq_append_getElem (by simpa using h), List.all_append]
  simp
  rfl
theorem keyB_bad (s : ByteArray) (j : Nat) (h : j < s.size) (hb : badKey (s[j]).toNat = true) : keyB s = false := by
  unfold keyB
  rw [Bool.and_eq_false_iff]
  right
  rw [List.all_eq_false]
  exact ⟨s[j], by simp [ByteArray.getElem_eq_getElem_data], by simp [hb]⟩
theorem keyB_good (s : ByteArray) (h : noBadKey s s.size = true) : keyB s = (decide (1 ≤ s.size) && decide (s.size ≤ 256)) := by
  unfold keyB
  unfold noBadKey at h
  rw [List.take_of_length_le (by simp)] at h
  rw [h, Bool.and_true]

theorem key_cases (c : Nat) : (badKey c = false ∧ 32 ≤ (c : Int) ∧ (c : Int) ≤ 126) ∨ (badKey c = true ∧ (c : Int) < 32) ∨ (badKey c = true ∧ 126 < (c : Int)) := by
  simp only [badKey, Bool.or_eq_true, Bool.or_eq_false_iff, decide_eq_true_eq, decide_eq_false_iff_not]
  omega

set_option maxHeartbeats 400000 in
theorem rKey_any (s : ByteArray) (hs : s.size ≤ 140737488355328) (w : World) :
    Calls Tryz.prog 61 #[.string s] w fun e w' => e = .returned (.bool (keyB s)) ∧ w = w' := by
  have HG := Lib.hid (keyB_good s)
  go_enter Tryz.func61, Tryz.ntmps61
  go_wp2_with fail
  go_loop [3] (fun vi => ∃ j : Nat, j ≤ s.size ∧ vi = .int .i64 j ∧ noBadKey s j = true) (fun vi => s.size - (intOf vi).toNat)
  case atStart => exact ⟨0, by omega, rfl, noBadKey_zero s⟩
  case round =>
    obtain ⟨j, hj, rfl, hb⟩ := hrel
    have HB := Lib.hid hb
    clear hb
    by_cases hjl : j < s.size
    · have HS := Lib.hid (noBadKey_succ s j hjl)
      have HT := Lib.hid (keyB_bad s j hjl)
      rcases key_cases (s[j]).toNat with ⟨hb, q1, q2⟩ | ⟨hb, q1⟩ | ⟨hb, q1⟩
      all_goals
        have HC := Lib.hid hb
        clear hb
        go_wp2_with fail
        first
          | (go_ret; exact ⟨ret_bool (HT.out HC.out).symm, rfl⟩)
          | (go_round
             case rel => exact ⟨j + 1, by omega, by go_num, by rw [HS.out, HB.out, HC.out]; rfl⟩
             case measure => simp [intOf]; omega)
    · obtain rfl : j = s.size := by omega
      by_cases h1 : 1 ≤ s.size
      · go_wp2_with fail
        go_ret
        exact ⟨ret_bool (by rw [HG.out HB.out, decide_eq_true h1, Bool.true_and]; exact decide_eq_decide.2 (by omega)), rfl⟩
      · go_wp2_with fail
        go_ret
        exact ⟨ret_bool (by rw [HG.out HB.out, decide_eq_false h1]; rfl), rfl⟩

end Go.Proofs.YtlniokpekcoodaaGreatDoor

/-
  How great, and how deep, a value is: package tree's calls and the reference's.
-/
set_option linter.unusedVariables false
set_option linter.unusedSimpArgs false
namespace Go.Proofs.YtlniokpekcoodaaGreatDoor
open Go.RowKit

set_option maxHeartbeats 400000 in
theorem tSize_any {w0 : World} {R : Nat → Prop} {t : T} {cs : Array Value} (h : Lies w0 R t cs) : ∀ w : World, Below w0.heap.size w0 w → t.size ≤ 4611686018427387904 →
    Calls Tryz.prog 84 #[.agg cs] w fun e w' => e = .returned (.int .i64 t.size) ∧ Below w.heap.size w w' := by
  induction h with
  | mk k b n s l m la lc ma mc cl cm hk hn hs hl hm rl rm ks il im ihl ihm =>
    intro w hw hz
    have ll := hl.le
    have lx := hl.big
    have ml := hm.le
    have mx := hm.big
    rw [T.size_mk] at hz
    have HL := Lib.hid ihl
    have HM := Lib.hid ihm
    have RL := Lib.hid rl
    have RM := Lib.hid rm
    have HS := Lib.hid (T.size_mk k b n s l m)
    have HA := Lib.hid (psum_all T.size l)
    have HB := Lib.hid (psum_all (fun p : ByteArray × T => p.2.size) m)
    clear ihl ihm rl rm
    go_enter Tryz.func84, Tryz.ntmps84
    go_wp2_with fail
    go_loopw [3, 11] (fun vn vi wr => ∃ j : Nat, j ≤ l.length ∧ vi = .int .i64 j ∧ vn = .int .i64 ↑(1 + psum T.size l j) ∧ Below (w.heap.size + 1) (w.alloc (.cells #[.int .i64 k, .bool b, .int .i64 n, .string s, .slice la l.length lc, .slice ma m.length mc] 25)) wr) (fun _ vi _ => l.length - (intOf vi).toNat)
    case atStart => exact ⟨0, by omega, rfl, by rw [psum_zero]; rfl, Below.refl _ _⟩
    case round =>
      obtain ⟨j, hj, rfl, rfl, hbw⟩ := hrel
      have hsz := hbw.size
      rw [World.size_alloc] at hsz
      have hbw2 := bstep hw (bunbox hbw (Nat.le_refl _) (by omega)) hw.size
      have hps := psum_le T.size l j
      by_cases hjl : j < l.length
      · have hi := HL.out j hjl
        obtain ⟨bl, ol, c0, c1, c2, c3, c4, c4l, c4c, c5, c5l, c5c, rfl, hc, r0, r1, r2, r3, r4, r5⟩ := openL hbw2 hl RL.out hjl (il j hjl)
        rw [hc] at hi
        have hs1 := psum_succ T.size l j hjl
        have hs2 := psum_le T.size l (j + 1)
        have hlim : 1 + psum T.size l j + l[j].size ≤ 4611686018427387904 := by omega
        have HI := Lib.hid hi
        have HS1 := Lib.hid hs1
        clear hc hi hs1
        go_wp2_with fail
        refine (HI.out _ (bbox hbw2 _ hbw2.size) (by omega)).mono ?_
        rintro e w1 ⟨rfl, hb1⟩
        have hb2 := bstep hbw (bunbox hb1 (Nat.le_refl _) (by simp)) (by omega)
        go_wp2_with fail
        go_roundw
        case rel => exact ⟨j + 1, by omega, by go_num, by rw [HS1.out]; go_num, hb2⟩
        case measure => simp [intOf]; omega
      · obtain rfl : j = l.length := by omega
        have b5 := box_cell hbw (o := 5) (by omega) rfl
        go_wp2_with fail
        obtain ⟨wo, rfl⟩ : ∃ wo : World, wo = wr := ⟨_, rfl⟩
        have HO := Lib.hid hbw
        go_loopw [3, 23] (fun vn vi wr => ∃ j : Nat, j ≤ m.length ∧ vi = .int .i64 j ∧ vn = .int .i64 ↑(1 + psum T.size l l.length + psum (fun p : ByteArray × T => p.2.size) m j) ∧ Below wo.heap.size wo wr) (fun _ vi _ => m.length - (intOf vi).toNat)
        case atStart => exact ⟨0, by omega, rfl, by rw [psum_zero]; rfl, Below.refl _ _⟩
        case round =>
          obtain ⟨j, hj, rfl, rfl, hbx⟩ := hrel
          have hbx2 := bstep hbw2 hbx hbw2.size
          have hpm := psum_le (fun p : ByteArray × T => p.2.size) m j
          by_cases hjm : j < m.length
          · have hi := HM.out j hjm
            obtain ⟨bl, ol, c0, c1, c2, c3, c4, c4l, c4c, c5, c5l, c5c, rfl, hc, r0, r1, r2, r3, r4, r5, r6⟩ := openM hbx2 hm RM.out hjm (im j hjm)
            rw [hc] at hi
            have hs1 := psum_succ (fun p : ByteArray × T => p.2.size) m j hjm
            have hs2 := psum_le (fun p : ByteArray × T => p.2.size) m (j + 1)
            have hlim : 1 + psum T.size l l.length + psum (fun p : ByteArray × T => p.2.size) m j + m[j].2.size ≤ 4611686018427387904 := by omega
            have HI := Lib.hid hi
            have HS1 := Lib.hid hs1
            clear hc hi hs1
            go_wp2_with fail
            refine (HI.out _ (bbox hbx2 _ hbx2.size) (by omega)).mono ?_
            rintro e w1 ⟨rfl, hb1⟩
            have hb2 := bstep hbx (bunbox hb1 (Nat.le_refl _) (by simp)) hbx.size
            go_wp2_with fail
            go_roundw
            case rel => exact ⟨j + 1, by omega, by go_num, by rw [HS1.out]; go_num, hb2⟩
            case measure => simp [intOf]; omega
          · obtain rfl : j = m.length := by omega
            go_wp2_with fail
            go_ret
            exact ⟨ret_int (by rw [HS.out, HA.out, HB.out]), bstep (bunbox HO.out (Nat.le_refl _) (by omega)) hbx (by have := HO.out.size; simp at this; omega)⟩

set_option maxHeartbeats 400000 in
theorem rSize_any {w0 : World} {R : Nat → Prop} {t : T} {cs : Array Value} (h : Lies w0 R t cs) : ∀ w : World, Below w0.heap.size w0 w → t.size ≤ 4611686018427387904 →
    Calls Tryz.prog 37 #[.agg cs] w fun e w' => e = .returned (.int .i64 t.size) ∧ Below w.heap.size w w' := by
  induction h with
  | mk k b n s l m la lc ma mc cl cm hk hn hs hl hm rl rm ks il im ihl ihm =>
    intro w hw hz
    have ll := hl.le
    have lx := hl.big
    have ml := hm.le
    have mx := hm.big
    rw [T.size_mk] at hz
    have HL := Lib.hid ihl
    have HM := Lib.hid ihm
    have RL := Lib.hid rl
    have RM := Lib.hid rm
    have HS := Lib.hid (T.size_mk k b n s l m)
    have HA := Lib.hid (psum_all T.size l)
    have HB := Lib.hid (psum_all (fun p : ByteArray × T => p.2.size) m)
    clear ihl ihm rl rm
    go_enter Tryz.func37, Tryz.ntmps37
    go_wp2_with fail
    go_loopw [3, 4] (fun vn vi wr => ∃ j : Nat, j ≤ l.length ∧ vi = .int .i64 j ∧ vn = .int .i64 ↑(1 + psum T.size l j) ∧ Below (w.heap.size + 1) (w.alloc (.cells #[.int .i64 k, .bool b, .int .i64 n, .string s, .slice la l.length lc, .slice ma m.length mc] 25)) wr) (fun _ vi _ => l.length - (intOf vi).toNat)
    case atStart => exact ⟨0, by omega, rfl, by rw [psum_zero]; rfl, Below.refl _ _⟩
    case round =>
      obtain ⟨j, hj, rfl, rfl, hbw⟩ := hrel
      have hsz := hbw.size
      rw [World.size_alloc] at hsz
      have hbw2 := bstep hw (bunbox hbw (Nat.le_refl _) (by omega)) hw.size
      have hps := psum_le T.size l j
      have b4 := box_cell hbw (o := 4) (by omega) rfl
      by_cases hjl : j < l.length
      · have hi := HL.out j hjl
        obtain ⟨bl, ol, c0, c1, c2, c3, c4, c4l, c4c, c5, c5l, c5c, rfl, hc, r0, r1, r2, r3, r4, r5⟩ := openL hbw2 hl RL.out hjl (il j hjl)
        rw [hc] at hi
        have hs1 := psum_succ T.size l j hjl
        have hs2 := psum_le T.size l (j + 1)
        have hlim : 1 + psum T.size l j + l[j].size ≤ 4611686018427387904 := by omega
        have HI := Lib.hid hi
        have HS1 := Lib.hid hs1
        clear hc hi hs1
        go_wp2_with fail
        refine (HI.out _ hbw2 (by omega)).mono ?_
        rintro e w1 ⟨rfl, hb1⟩
        have hb2 := bstep hbw hb1 hsz
        go_wp2_with fail
        go_roundw
        case rel => exact ⟨j + 1, by omega, by go_num, by rw [HS1.out]; go_num, hb2⟩
        case measure => simp [intOf]; omega
      · obtain rfl : j = l.length := by omega
        go_wp2_with fail
        obtain ⟨wo, rfl⟩ : ∃ wo : World, wo = wr := ⟨_, rfl⟩
        clear b4
        have HO := Lib.hid hbw
        go_loopw [3, 5] (fun vn vi wr => ∃ j : Nat, j ≤ m.length ∧ vi = .int .i64 j ∧ vn = .int .i64 ↑(1 + psum T.size l l.length + psum (fun p : ByteArray × T => p.2.size) m j) ∧ Below wo.heap.size wo wr) (fun _ vi _ => m.length - (intOf vi).toNat)
        case atStart => exact ⟨0, by omega, rfl, by rw [psum_zero]; rfl, Below.refl _ _⟩
        case round =>
          obtain ⟨j, hj, rfl, rfl, hbx⟩ := hrel
          have hbx2 := bstep hbw2 hbx hbw2.size
          have hpm := psum_le (fun p : ByteArray × T => p.2.size) m j
          have b5 := box_cell (bstep HO.out hbx (by have := HO.out.size; simp at this; omega)) (o := 5) (by omega) rfl
          by_cases hjm : j < m.length
          · have hi := HM.out j hjm
            obtain ⟨bl, ol, c0, c1, c2, c3, c4, c4l, c4c, c5, c5l, c5c, rfl, hc, r0, r1, r2, r3, r4, r5, r6⟩ := openM hbx2 hm RM.out hjm (im j hjm)
            rw [hc] at hi
            have hs1 := psum_succ (fun p : ByteArray × T => p.2.size) m j hjm
            have hs2 := psum_le (fun p : ByteArray × T => p.2.size) m (j + 1)
            have hlim : 1 + psum T.size l l.length + psum (fun p : ByteArray × T => p.2.size) m j + m[j].2.size ≤ 4611686018427387904 := by omega
            have HI := Lib.hid hi
            have HS1 := Lib.hid hs1
            clear hc hi hs1
            go_wp2_with fail
            refine (HI.out _ hbx2 (by omega)).mono ?_
            rintro e w1 ⟨rfl, hb1⟩
            have hb2 := bstep hbx hb1 hbx.size
            go_wp2_with fail
            go_roundw
            case rel => exact ⟨j + 1, by omega, by go_num, by rw [HS1.out]; go_num, hb2⟩
            case measure => simp [intOf]; omega
          · obtain rfl : j = m.length := by omega
            go_wp2_with fail
            go_ret
            exact ⟨ret_int (by rw [HS.out, HA.out, HB.out]), bstep (bunbox HO.out (Nat.le_refl _) (by omega)) hbx (by have := HO.out.size; simp at this; omega)⟩

set_option maxHeartbeats 400000 in
theorem rDepth_any {w0 : World} {R : Nat → Prop} {t : T} {cs : Array Value} (h : Lies w0 R t cs) : ∀ w : World, Below w0.heap.size w0 w → t.depth ≤ 4611686018427387904 →
    Calls Tryz.prog 36 #[.agg cs] w fun e w' => e = .returned (.int .i64 t.depth) ∧ Below w.heap.size w w' := by
  induction h with
  | mk k b n s l m la lc ma mc cl cm hk hn hs hl hm rl rm ks il im ihl ihm =>
    intro w hw hz
    have ll := hl.le
    have lx := hl.big
    have ml := hm.le
    have mx := hm.big
    rw [T.depth_mk] at hz
    have HL := Lib.hid ihl
    have HM := Lib.hid ihm
    have RL := Lib.hid rl
    have RM := Lib.hid rm
    have HS := Lib.hid (T.depth_mk k b n s l m)
    have HA := Lib.hid (pmax_all T.depth l)
    have HB := Lib.hid (pmax_all (fun p : ByteArray × T => p.2.depth) m)
    clear ihl ihm rl rm
    go_enter Tryz.func36, Tryz.ntmps36
    go_wp2_with fail
    go_loopw [3, 4] (fun vn vi wr => ∃ j : Nat, j ≤ l.length ∧ vi = .int .i64 j ∧ vn = .int .i64 ↑(pmax T.depth l j) ∧ Below (w.heap.size + 1) (w.alloc (.cells #[.int .i64 k, .bool b, .int .i64 n, .string s, .slice la l.length lc, .slice ma m.length mc] 25)) wr) (fun _ vi _ => l.length - (intOf vi).toNat)
    case atStart => exact ⟨0, by omega, rfl, by rw [pmax_zero]; exact val_int (by omega), Below.refl _ _⟩
    case round =>
      obtain ⟨j, hj, rfl, rfl, hbw⟩ := hrel
      have hsz := hbw.size
      rw [World.size_alloc] at hsz
      have hbw2 := bstep hw (bunbox hbw (Nat.le_refl _) (by omega)) hw.size
      have hps := pmax_le T.depth l j
      have b4 := box_cell hbw (o := 4) (by omega) rfl
      by_cases hjl : j < l.length
      · have hi := HL.out j hjl
        obtain ⟨bl, ol, c0, c1, c2, c3, c4, c4l, c4c, c5, c5l, c5c, rfl, hc, r0, r1, r2, r3, r4, r5⟩ := openL hbw2 hl RL.out hjl (il j hjl)
        rw [hc] at hi
        have hs1 := pmax_succ T.depth l j hjl
        have hs2 := pmax_le T.depth l (j + 1)
        have hlim : max (pmax T.depth l j) (l[j].depth) ≤ 4611686018427387904 := by omega
        have HI := Lib.hid hi
        have HS1 := Lib.hid hs1
        clear hc hi hs1
        go_wp2_with fail
        refine (HI.out _ hbw2 (by omega)).mono ?_
        rintro e w1 ⟨rfl, hb1⟩
        have hb2 := bstep hbw hb1 hsz
        by_cases hd : (pmax T.depth l j : Int) < l[j].depth
        all_goals
          go_wp2_with fail
          go_roundw
          case rel => exact ⟨j + 1, by omega, by go_num, by rw [HS1.out]; exact val_int (by omega), hb2⟩
          case measure => simp [intOf]; omega
      · obtain rfl : j = l.length := by omega
        go_wp2_with fail
        obtain ⟨wo, rfl⟩ : ∃ wo : World, wo = wr := ⟨_, rfl⟩
        clear b4
        have HO := Lib.hid hbw
        go_loopw [3, 6] (fun vn vi wr => ∃ j : Nat, j ≤ m.length ∧ vi = .int .i64 j ∧ vn = .int .i64 ↑(max (pmax T.depth l l.length) (pmax (fun p : ByteArray × T => p.2.depth) m j)) ∧ Below wo.heap.size wo wr) (fun _ vi _ => m.length - (intOf vi).toNat)
        case atStart => exact ⟨0, by omega, rfl, by rw [pmax_zero]; exact val_int (by omega), Below.refl _ _⟩
        case round =>
          obtain ⟨j, hj, rfl, rfl, hbx⟩ := hrel
          have hbx2 := bstep hbw2 hbx hbw2.size
          have hpm := pmax_le (fun p : ByteArray × T => p.2.depth) m j
          have b5 := box_cell (bstep HO.out hbx (by have := HO.out.size; simp at this; omega)) (o := 5) (by omega) rfl
          by_cases hjm : j < m.length
          · have hi := HM.out j hjm
            obtain ⟨bl, ol, c0, c1, c2, c3, c4, c4l, c4c, c5, c5l, c5c, rfl, hc, r0, r1, r2, r3, r4, r5, r6⟩ := openM hbx2 hm RM.out hjm (im j hjm)
            rw [hc] at hi
            have hs1 := pmax_succ (fun p : ByteArray × T => p.2.depth) m j hjm
            have hs2 := pmax_le (fun p : ByteArray × T => p.2.depth) m (j + 1)
            have hlim : max (max (pmax T.depth l l.length) (pmax (fun p : ByteArray × T => p.2.depth) m j)) m[j].2.depth ≤ 4611686018427387904 := by omega
            have HI := Lib.hid hi
            have HS1 := Lib.hid hs1
            clear hc hi hs1
            go_wp2_with fail
            refine (HI.out _ hbx2 (by omega)).mono ?_
            rintro e w1 ⟨rfl, hb1⟩
            have hb2 := bstep hbx hb1 hbx.size
            by_cases hd : (max (pmax T.depth l l.length) (pmax (fun p : ByteArray × T => p.2.depth) m j) : Nat) < (m[j].2.depth : Int)
            all_goals
              go_wp2_with fail
              go_roundw
              case rel => exact ⟨j + 1, by omega, by go_num, by rw [HS1.out]; exact val_int (by omega), hb2⟩
              case measure => simp [intOf]; omega
          · obtain rfl : j = m.length := by omega
            go_wp2_with fail
            go_ret
            exact ⟨ret_int (by rw [HS.out, HA.out, HB.out]; omega), bstep (bunbox HO.out (Nat.le_refl _) (by omega)) hbx (by have := HO.out.size; simp at this; omega)⟩

end Go.Proofs.YtlniokpekcoodaaGreatDoor
