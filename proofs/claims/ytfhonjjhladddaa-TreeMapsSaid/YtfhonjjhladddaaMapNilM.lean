/-
  Package tree's Map of nothing.
-/
import Derived.Test.YtfhonjjhladddaaMapTopM
import Derived.Test.YtfhonjjhladddaaDrop
import Derived.Test.YtfhonjjhladddaaVals
set_option linter.unusedVariables false
set_option linter.unusedSimpArgs false
namespace Go.Proofs.Ytfhonjjhladddaa
open Go.RowKit Go.Sort

set_option maxRecDepth 100000 in
set_option maxHeartbeats 800000 in
theorem tMap_nil (w : World) : Calls Try.prog 15 #[.slice none 0 0] w fun e w' => e = .returned (.agg #[.int .i64 5, .bool false, .int .i64 0, .string ⟨#[]⟩, .slice none 0 0, .slice none 0 0]) ∧ Below w.heap.size w w' := by
  go_enter Try.func15, Try.ntmps15
  go_wp2_with fail
  refine (sCloneP_zero _).mono ?_
  rintro e w1 ⟨a, c, rfl, hn, hc, hB⟩
  obtain ⟨z1, z2⟩ := one_boxD hB
  have HB := Lib.hid (bunbox hB (Nat.le_refl w.heap.size) (by simp))
  clear hB hn
  go_wp2_with fail
  refine (sort_zero _ _ _).mono ?_
  rintro e w2 ⟨rfl, rfl⟩
  go_wp2_with fail
  refine wp_loop_rounds 1 ?_
  rw [rounds_succ]
  go_wp2_with fail
  obtain ⟨dd, hu, hdd⟩ := Try.structV
  refine ret_cells w1 w.heap.size [.int .i64 5, .bool false, .int .i64 0, .string ⟨#[]⟩, .slice none 0 0, .slice none 0 0] rfl Try.results15 rfl rfl hdd hu Try.sizeV (fun i hi => ⟨_, (z1 i).trans (Array.getElem?_eq_getElem (show i < 6 from hi))⟩) ?_
  exact ⟨rfl, setRow_below _ (Nat.le_refl _) _ _ _ HB.out⟩

end Go.Proofs.Ytfhonjjhladddaa

/-
  Which texts, and which keys, may be.
-/
set_option linter.unusedVariables false
set_option linter.unusedSimpArgs false
namespace Go.Proofs.Ytfhonjjhladddaa
open Go.RowKit

def badByte (c : Nat) : Bool := (decide (c < 32) || decide (126 < c)) && (!decide (c = 9)) && (!decide (c = 10))
def textB (s : ByteArray) : Bool := decide (s.size ≤ 65536) && s.data.toList.all fun c => !badByte c.toNat
def noBad (s : ByteArray) (j : Nat) : Bool := (s.data.toList.take j).all fun c => !badByte c.toNat
theorem noBad_zero (s : ByteArray) : noBad s 0 = true := by simp [noBad]
theorem noBad_succ (s : ByteArray) (j : Nat) (h : j < s.size) : noBad s (j + 1) = (noBad s j && !badByte (s[j]).toNat) := by
  unfold noBad
  rw [List.take_succ_eq_append_getElem (by simpa using h), List.all_append]
  simp
  rfl

theorem textB_bad (s : ByteArray) (j : Nat) (h : j < s.size) (hb : badByte (s[j]).toNat = true) : textB s = false := by
  unfold textB
  rw [Bool.and_eq_false_iff]
  right
  rw [List.all_eq_false]
  exact ⟨s[j], by simp [ByteArray.getElem_eq_getElem_data], by simp [hb]⟩
theorem textB_good (s : ByteArray) (h : noBad s s.size = true) : textB s = decide (s.size ≤ 65536) := by
  unfold textB
  unfold noBad at h
  rw [List.take_of_length_le (by simp)] at h
  rw [h, Bool.and_true]
theorem textB_long (s : ByteArray) (h : 65536 < s.size) : textB s = false := by
  unfold textB
  rw [decide_eq_false (by omega), Bool.false_and]

theorem byte_cases (c : Nat) : (badByte c = false ∧ (c : Int) < 32 ∧ ((c : Int) != 9) = false) ∨ (badByte c = false ∧ (c : Int) < 32 ∧ ((c : Int) != 9) = true ∧ ((c : Int) != 10) = false) ∨ (badByte c = false ∧ 32 ≤ (c : Int) ∧ (c : Int) ≤ 126) ∨
    (badByte c = true ∧ (c : Int) < 32 ∧ ((c : Int) != 9) = true ∧ ((c : Int) != 10) = true) ∨ (badByte c = true ∧ 126 < (c : Int) ∧ ((c : Int) != 9) = true ∧ ((c : Int) != 10) = true) := by
  simp only [badByte, bne_iff_ne, bne_eq_false_iff_eq, Bool.and_eq_true, Bool.or_eq_true, Bool.and_eq_false_iff, Bool.or_eq_false_iff, decide_eq_true_eq, decide_eq_false_iff_not, Bool.not_eq_true', Bool.not_eq_false', ne_eq]
  omega

set_option maxHeartbeats 400000 in
theorem rText_any (s : ByteArray) (hs : s.size ≤ 140737488355328) (w : World) :
    Calls Try.prog 61 #[.string s] w fun e w' => e = .returned (.bool (textB s)) ∧ w = w' := by
  have HG := Lib.hid (textB_good s)
  go_enter Try.func61, Try.ntmps61
  go_wp2_with fail
  go_loop [3] (fun vi => ∃ j : Nat, j ≤ s.size ∧ vi = .int .i64 j ∧ noBad s j = true) (fun vi => s.size - (intOf vi).toNat)
  case atStart => exact ⟨0, by omega, rfl, noBad_zero s⟩
  case round =>
    obtain ⟨j, hj, rfl, hb⟩ := hrel
    have HB := Lib.hid hb
    clear hb
    by_cases hjl : j < s.size
    · have HS := Lib.hid (noBad_succ s j hjl)
      have HT := Lib.hid (textB_bad s j hjl)
      rcases byte_cases (s[j]).toNat with ⟨hb, q1, q2⟩ | ⟨hb, q1, q2, q3⟩ | ⟨hb, q1, q2⟩ | ⟨hb, q1, q2, q3⟩ | ⟨hb, q1, q2, q3⟩
      all_goals
        have HC := Lib.hid hb
        clear hb
        go_wp2_with fail
        first
          | (go_ret; exact ⟨ret_bool (HT.out HC.out).symm, rfl⟩)
          | (go_round
             case rel => exact ⟨j + 1, by omega, by go_num, by rw [HS.out, HB.out, HC.out]; rfl⟩
             case measure => simp [intOf]; omega)
    · obtain rfl : j = s.size := by omega
      go_wp2_with fail
      go_ret
      exact ⟨ret_bool (by rw [HG.out HB.out]; exact decide_eq_decide.2 (by omega)), rfl⟩

/-- May a key be so? -/
def badKey (c : Nat) : Bool := decide (c < 32) || decide (126 < c)
def keyB (s : ByteArray) : Bool := decide (1 ≤ s.size) && decide (s.size ≤ 256) && s.data.toList.all fun c => !badKey c.toNat
def noBadKey (s : ByteArray) (j : Nat) : Bool := (s.data.toList.take j).all fun c => !badKey c.toNat
theorem noBadKey_zero (s : ByteArray) : noBadKey s 0 = true := by simp [noBadKey]
theorem noBadKey_succ (s : ByteArray) (j : Nat) (h : j < s.size) : noBadKey s (j + 1) = (noBadKey s j && !badKey (s[j]).toNat) := by
  unfold noBadKey
  rw [List.take_succ_eq_append_getElem (by simpa using h), List.all_append]
  simp
  rfl
theorem keyB_bad (s : ByteArray) (j : Nat) (h : j < s.size) (hb : badKey (s[j]).toNat = true) : keyB s = false := by
  unfold keyB
  rw [Bool.and_eq_false_iff]
  right
  rw [List.all_eq_false]
  exact ⟨s[j], by simp [ByteArray.getElem_eq_getElem_data], by simp [hb]⟩
theorem keyB_good (s : ByteArray) (h : noBadKey s s.size = true) : keyB s = (decide (1 ≤ s.size) && decide (s.size ≤ 256)) := by
  unfold keyB
  unfold noBadKey at h
  rw [List.take_of_length_le (by simp)] at h
  rw [h, Bool.and_true]

theorem key_cases (c : Nat) : (badKey c = false ∧ 32 ≤ (c : Int) ∧ (c : Int) ≤ 126) ∨ (badKey c = true ∧ (c : Int) < 32) ∨ (badKey c = true ∧ 126 < (c : Int)) := by
  simp only [badKey, Bool.or_eq_true, Bool.or_eq_false_iff, decide_eq_true_eq, decide_eq_false_iff_not]
  omega

set_option maxHeartbeats 400000 in
theorem rKey_any (s : ByteArray) (hs : s.size ≤ 140737488355328) (w : World) :
    Calls Try.prog 6 #[.string s] w fun e w' => e = .returned (.bool (keyB s)) ∧ w = w' := by
  have HG := Lib.hid (keyB_good s)
  go_enter Try.func6, Try.ntmps6
  go_wp2_with fail
  go_loop [3] (fun vi => ∃ j : Nat, j ≤ s.size ∧ vi = .int .i64 j ∧ noBadKey s j = true) (fun vi => s.size - (intOf vi).toNat)
  case atStart => exact ⟨0, by omega, rfl, noBadKey_zero s⟩
  case round =>
    obtain ⟨j, hj, rfl, hb⟩ := hrel
    have HB := Lib.hid hb
    clear hb
    by_cases hjl : j < s.size
    · have HS := Lib.hid (noBadKey_succ s j hjl)
      have HT := Lib.hid (keyB_bad s j hjl)
      rcases key_cases (s[j]).toNat with ⟨hb, q1, q2⟩ | ⟨hb, q1⟩ | ⟨hb, q1⟩
      all_goals
        have HC := Lib.hid hb
        clear hb
        go_wp2_with fail
        first
          | (go_ret; exact ⟨ret_bool (HT.out HC.out).symm, rfl⟩)
          | (go_round
             case rel => exact ⟨j + 1, by omega, by go_num, by rw [HS.out, HB.out, HC.out]; rfl⟩
             case measure => simp [intOf]; omega)
    · obtain rfl : j = s.size := by omega
      by_cases h1 : 1 ≤ s.size
      · go_wp2_with fail
        go_ret
        exact ⟨ret_bool (by rw [HG.out HB.out, decide_eq_true h1, Bool.true_and]; exact decide_eq_decide.2 (by omega)), rfl⟩
      · go_wp2_with fail
        go_ret
        exact ⟨ret_bool (by rw [HG.out HB.out, decide_eq_false h1]; rfl), rfl⟩

end Go.Proofs.Ytfhonjjhladddaa

/-
  How great, and how deep, a value is: package tree's calls and the reference's.
-/
set_option linter.unusedVariables false
set_option linter.unusedSimpArgs false
namespace Go.Proofs.Ytfhonjjhladddaa
open Go.RowKit

set_option maxHeartbeats 400000 in
theorem rSize_any {w0 : World} {R : Nat → Prop} {t : T} {cs : Array Value} (h : Lies w0 R t cs) : ∀ w : World, Below w0.heap.size w0 w → t.size ≤ 4611686018427387904 →
    Calls Try.prog 53 #[.agg cs] w fun e w' => e = .returned (.int .i64 t.size) ∧ Below w.heap.size w w' := by
  induction h with
  | mk k b n s l m la lc ma mc cl cm hk hn hs hl hm rl rm ks il im ihl ihm =>
    intro w hw hz
    have ll := hl.le
    have lx := hl.big
    have ml := hm.le
    have mx := hm.big
    rw [T.size_mk] at hz
    have HL := Lib.hid ihl
    have HM := Lib.hid ihm
    have RL := Lib.hid rl
    have RM := Lib.hid rm
    have HS := Lib.hid (T.size_mk k b n s l m)
    have HA := Lib.hid (psum_all T.size l)
    have HB := Lib.hid (psum_all (fun p : ByteArray × T => p.2.size) m)
    clear ihl ihm rl rm
    go_enter Try.func53, Try.ntmps53
    go_wp2_with fail
    go_loopw [3, 4] (fun vn vi wr => ∃ j : Nat, j ≤ l.length ∧ vi = .int .i64 j ∧ vn = .int .i64 ↑(1 + psum T.size l j) ∧ Below (w.heap.size + 1) (w.alloc (.cells #[.int .i64 k, .bool b, .int .i64 n, .string s, .slice la l.length lc, .slice ma m.length mc] 25)) wr) (fun _ vi _ => l.length - (intOf vi).toNat)
    case atStart => exact ⟨0, by omega, rfl, by rw [psum_zero]; rfl, Below.refl _ _⟩
    case round =>
      obtain ⟨j, hj, rfl, rfl, hbw⟩ := hrel
      have hsz := hbw.size
      rw [World.size_alloc] at hsz
      have hbw2 := bstep hw (bunbox hbw (Nat.le_refl _) (by omega)) hw.size
      have hps := psum_le T.size l j
      have b4 := box_cell hbw (o := 4) (by omega) rfl
      by_cases hjl : j < l.length
      · have hi := HL.out j hjl
        obtain ⟨bl, ol, c0, c1, c2, c3, c4, c4l, c4c, c5, c5l, c5c, rfl, hc, r0, r1, r2, r3, r4, r5⟩ := openL hbw2 hl RL.out hjl (il j hjl)
        rw [hc] at hi
        have hs1 := psum_succ T.size l j hjl
        have hs2 := psum_le T.size l (j + 1)
        have hlim : 1 + psum T.size l j + l[j].size ≤ 4611686018427387904 := by omega
        have HI := Lib.hid hi
        have HS1 := Lib.hid hs1
        clear hc hi hs1
        go_wp2_with fail
        refine (HI.out _ hbw2 (by omega)).mono ?_
        rintro e w1 ⟨rfl, hb1⟩
        have hb2 := bstep hbw hb1 hsz
        go_wp2_with fail
        go_roundw
        case rel => exact ⟨j + 1, by omega, by go_num, by rw [HS1.out]; go_num, hb2⟩
        case measure => simp [intOf]; omega
      · obtain rfl : j = l.length := by omega
        go_wp2_with fail
        obtain ⟨wo, rfl⟩ : ∃ wo : World, wo = wr := ⟨_, rfl⟩
        clear b4
        have HO := Lib.hid hbw
        go_loopw [3, 5] (fun vn vi wr => ∃ j : Nat, j ≤ m.length ∧ vi = .int .i64 j ∧ vn = .int .i64 ↑(1 + psum T.size l l.length + psum (fun p : ByteArray × T => p.2.size) m j) ∧ Below wo.heap.size wo wr) (fun _ vi _ => m.length - (intOf vi).toNat)
        case atStart => exact ⟨0, by omega, rfl, by rw [psum_zero]; rfl, Below.refl _ _⟩
        case round =>
          obtain ⟨j, hj, rfl, rfl, hbx⟩ := hrel
          have hbx2 := bstep hbw2 hbx hbw2.size
          have hpm := psum_le (fun p : ByteArray × T => p.2.size) m j
          have b5 := box_cell (bstep HO.out hbx (by have := HO.out.size; simp at this; omega)) (o := 5) (by omega) rfl
          by_cases hjm : j < m.length
          · have hi := HM.out j hjm
            obtain ⟨bl, ol, c0, c1, c2, c3, c4, c4l, c4c, c5, c5l, c5c, rfl, hc, r0, r1, r2, r3, r4, r5, r6⟩ := openM hbx2 hm RM.out hjm (im j hjm)
            rw [hc] at hi
            have hs1 := psum_succ (fun p : ByteArray × T => p.2.size) m j hjm
            have hs2 := psum_le (fun p : ByteArray × T => p.2.size) m (j + 1)
            have hlim : 1 + psum T.size l l.length + psum (fun p : ByteArray × T => p.2.size) m j + m[j].2.size ≤ 4611686018427387904 := by omega
            have HI := Lib.hid hi
            have HS1 := Lib.hid hs1
            clear hc hi hs1
            go_wp2_with fail
            refine (HI.out _ hbx2 (by omega)).mono ?_
            rintro e w1 ⟨rfl, hb1⟩
            have hb2 := bstep hbx hb1 hbx.size
            go_wp2_with fail
            go_roundw
            case rel => exact ⟨j + 1, by omega, by go_num, by rw [HS1.out]; go_num, hb2⟩
            case measure => simp [intOf]; omega
          · obtain rfl : j = m.length := by omega
            go_wp2_with fail
            go_ret
            exact ⟨ret_int (by rw [HS.out, HA.out, HB.out]), bstep (bunbox HO.out (Nat.le_refl _) (by omega)) hbx (by have := HO.out.size; simp at this; omega)⟩

set_option maxHeartbeats 400000 in
theorem rDepth_any {w0 : World} {R : Nat → Prop} {t : T} {cs : Array Value} (h : Lies w0 R t cs) : ∀ w : World, Below w0.heap.size w0 w → t.depth ≤ 4611686018427387904 →
    Calls Try.prog 52 #[.agg cs] w fun e w' => e = .returned (.int .i64 t.depth) ∧ Below w.heap.size w w' := by
  induction h with
  | mk k b n s l m la lc ma mc cl cm hk hn hs hl hm rl rm ks il im ihl ihm =>
    intro w hw hz
    have ll := hl.le
    have lx := hl.big
    have ml := hm.le
    have mx := hm.big
    rw [T.depth_mk] at hz
    have HL := Lib.hid ihl
    have HM := Lib.hid ihm
    have RL := Lib.hid rl
    have RM := Lib.hid rm
    have HS := Lib.hid (T.depth_mk k b n s l m)
    have HA := Lib.hid (pmax_all T.depth l)
    have HB := Lib.hid (pmax_all (fun p : ByteArray × T => p.2.depth) m)
    clear ihl ihm rl rm
    go_enter Try.func52, Try.ntmps52
    go_wp2_with fail
    go_loopw [3, 4] (fun vn vi wr => ∃ j : Nat, j ≤ l.length ∧ vi = .int .i64 j ∧ vn = .int .i64 ↑(pmax T.depth l j) ∧ Below (w.heap.size + 1) (w.alloc (.cells #[.int .i64 k, .bool b, .int .i64 n, .string s, .slice la l.length lc, .slice ma m.length mc] 25)) wr) (fun _ vi _ => l.length - (intOf vi).toNat)
    case atStart => exact ⟨0, by omega, rfl, by rw [pmax_zero]; exact val_int (by omega), Below.refl _ _⟩
    case round =>
      obtain ⟨j, hj, rfl, rfl, hbw⟩ := hrel
      have hsz := hbw.size
      rw [World.size_alloc] at hsz
      have hbw2 := bstep hw (bunbox hbw (Nat.le_refl _) (by omega)) hw.size
      have hps := pmax_le T.depth l j
      have b4 := box_cell hbw (o := 4) (by omega) rfl
      by_cases hjl : j < l.length
      · have hi := HL.out j hjl
        obtain ⟨bl, ol, c0, c1, c2, c3, c4, c4l, c4c, c5, c5l, c5c, rfl, hc, r0, r1, r2, r3, r4, r5⟩ := openL hbw2 hl RL.out hjl (il j hjl)
        rw [hc] at hi
        have hs1 := pmax_succ T.depth l j hjl
        have hs2 := pmax_le T.depth l (j + 1)
        have hlim : max (pmax T.depth l j) (l[j].depth) ≤ 4611686018427387904 := by omega
        have HI := Lib.hid hi
        have HS1 := Lib.hid hs1
        clear hc hi hs1
        go_wp2_with fail
        refine (HI.out _ hbw2 (by omega)).mono ?_
        rintro e w1 ⟨rfl, hb1⟩
        have hb2 := bstep hbw hb1 hsz
        by_cases hd : (pmax T.depth l j : Int) < l[j].depth
        all_goals
          go_wp2_with fail
          go_roundw
          case rel => exact ⟨j + 1, by omega, by go_num, by rw [HS1.out]; exact val_int (by omega), hb2⟩
          case measure => simp [intOf]; omega
      · obtain rfl : j = l.length := by omega
        go_wp2_with fail
        obtain ⟨wo, rfl⟩ : ∃ wo : World, wo = wr := ⟨_, rfl⟩
        clear b4
        have HO := Lib.hid hbw
        go_loopw [3, 6] (fun vn vi wr => ∃ j : Nat, j ≤ m.length ∧ vi = .int .i64 j ∧ vn = .int .i64 ↑(max (pmax T.depth l l.length) (pmax (fun p : ByteArray × T => p.2.depth) m j)) ∧ Below wo.heap.size wo wr) (fun _ vi _ => m.length - (intOf vi).toNat)
        case atStart => exact ⟨0, by omega, rfl, by rw [pmax_zero]; exact val_int (by omega), Below.refl _ _⟩
        case round =>
          obtain ⟨j, hj, rfl, rfl, hbx⟩ := hrel
          have hbx2 := bstep hbw2 hbx hbw2.size
          have hpm := pmax_le (fun p : ByteArray × T => p.2.depth) m j
          have b5 := box_cell (bstep HO.out hbx (by have := HO.out.size; simp at this; omega)) (o := 5) (by omega) rfl
          by_cases hjm : j < m.length
          · have hi := HM.out j hjm
            obtain ⟨bl, ol, c0, c1, c2, c3, c4, c4l, c4c, c5, c5l, c5c, rfl, hc, r0, r1, r2, r3, r4, r5, r6⟩ := openM hbx2 hm RM.out hjm (im j hjm)
            rw [hc] at hi
            have hs1 := pmax_succ (fun p : ByteArray × T => p.2.depth) m j hjm
            have hs2 := pmax_le (fun p : ByteArray × T => p.2.depth) m (j + 1)
            have hlim : max (max (pmax T.depth l l.length) (pmax (fun p : ByteArray × T => p.2.depth) m j)) m[j].2.depth ≤ 4611686018427387904 := by omega
            have HI := Lib.hid hi
            have HS1 := Lib.hid hs1
            clear hc hi hs1
            go_wp2_with fail
            refine (HI.out _ hbx2 (by omega)).mono ?_
            rintro e w1 ⟨rfl, hb1⟩
            have hb2 := bstep hbx hb1 hbx.size
            by_cases hd : (max (pmax T.depth l l.length) (pmax (fun p : ByteArray × T => p.2.depth) m j) : Nat) < (m[j].2.depth : Int)
            all_goals
              go_wp2_with fail
              go_roundw
              case rel => exact ⟨j + 1, by omega, by go_num, by rw [HS1.out]; exact val_int (by omega), hb2⟩
              case measure => simp [intOf]; omega
          · obtain rfl : j = m.length := by omega
            go_wp2_with fail
            go_ret
            exact ⟨ret_int (by rw [HS.out, HA.out, HB.out]; omega), bstep (bunbox HO.out (Nat.le_refl _) (by omega)) hbx (by have := HO.out.size; simp at this; omega)⟩

end Go.Proofs.Ytfhonjjhladddaa
