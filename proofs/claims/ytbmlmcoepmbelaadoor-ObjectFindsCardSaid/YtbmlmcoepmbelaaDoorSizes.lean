/-
  How great, and how deep, a value is: package tree's calls and the reference's.
-/
import Derived.Test.YtbmlmcoepmbelaaDoorVals
set_option linter.unusedVariables false
set_option linter.unusedSimpArgs false
namespace Go.Proofs.YtbmlmcoepmbelaaDoor
open Go.RowKit

set_option maxHeartbeats 400000 in
theorem tSize_any {w0 : World} {R : Nat → Prop} {t : T} {cs : Array Value} (h : Lies w0 R t cs) : ∀ w : World, Below w0.heap.size w0 w → t.size ≤ 4611686018427387904 →
    Calls Tryd.prog 46 #[.agg cs] w fun e w' => e = .returned (.int .i64 t.size) ∧ Below w.heap.size w w' := by
  induction h with
  | mk k b n s l m la lc ma mc cl cm hk hn hs hl hm rl rm ks il im ihl ihm =>
    intro w hw hz
    have ll := hl.le
    have lx := hl.big
    have ml := hm.le
    have mx := hm.big
    rw [T.size_mk] at hz
    have HL := Lib.hid ihl
    have HM := Lib.hid ihm
    have RL := Lib.hid rl
    have RM := Lib.hid rm
    have HS := Lib.hid (T.size_mk k b n s l m)
    have HA := Lib.hid (psum_all T.size l)
    have HB := Lib.hid (psum_all (fun p : ByteArray × T => p.2.size) m)
    clear ihl ihm rl rm
    go_enter Tryd.func46, Tryd.ntmps46
    go_wp2_with fail
    go_loopw [3, 11] (fun vn vi wr => ∃ j : Nat, j ≤ l.length ∧ vi = .int .i64 j ∧ vn = .int .i64 ↑(1 + psum T.size l j) ∧ Below (w.heap.size + 1) (w.alloc (.cells #[.int .i64 k, .bool b, .int .i64 n, .string s, .slice la l.length lc, .slice ma m.length mc] 25)) wr) (fun _ vi _ => l.length - (intOf vi).toNat)
    case atStart => exact ⟨0, by omega, rfl, by rw [psum_zero]; rfl, Below.refl _ _⟩
    case round =>
      obtain ⟨j, hj, rfl, rfl, hbw⟩ := hrel
      have hsz := hbw.size
      rw [World.size_alloc] at hsz
      have hbw2 := bstep hw (bunbox hbw (Nat.le_refl _) (by omega)) hw.size
      have hps := psum_le T.size l j
      by_cases hjl : j < l.length
      · have hi := HL.out j hjl
        obtain ⟨bl, ol, c0, c1, c2, c3, c4, c4l, c4c, c5, c5l, c5c, rfl, hc, r0, r1, r2, r3, r4, r5⟩ := openL hbw2 hl RL.out hjl (il j hjl)
        rw [hc] at hi
        have hs1 := psum_succ T.size l j hjl
        have hs2 := psum_le T.size l (j + 1)
        have hlim : 1 + psum T.size l j + l[j].size ≤ 4611686018427387904 := by omega
        have HI := Lib.hid hi
        have HS1 := Lib.hid hs1
        clear hc hi hs1
        go_wp2_with fail
        refine (HI.out _ (bbox hbw2 _ hbw2.size) (by omega)).mono ?_
        rintro e w1 ⟨rfl, hb1⟩
        have hb2 := bstep hbw (bunbox hb1 (Nat.le_refl _) (by simp)) (by omega)
        go_wp2_with fail
        go_roundw
        case rel => exact ⟨j + 1, by omega, by go_num, by rw [HS1.out]; go_num, hb2⟩
        case measure => simp [intOf]; omega
      · obtain rfl : j = l.length := by omega
        have b5 := box_cell hbw (o := 5) (by omega) rfl
        go_wp2_with fail
        obtain ⟨wo, rfl⟩ : ∃ wo : World, wo = wr := ⟨_, rfl⟩
        have HO := Lib.hid hbw
        go_loopw [3, 23] (fun vn vi wr => ∃ j : Nat, j ≤ m.length ∧ vi = .int .i64 j ∧ vn = .int .i64 ↑(1 + psum T.size l l.length + psum (fun p : ByteArray × T => p.2.size) m j) ∧ Below wo.heap.size wo wr) (fun _ vi _ => m.length - (intOf vi).toNat)
        case atStart => exact ⟨0, by omega, rfl, by rw [psum_zero]; rfl, Below.refl _ _⟩
        case round =>
          obtain ⟨j, hj, rfl, rfl, hbx⟩ := hrel
          have hbx2 := bstep hbw2 hbx hbw2.size
          have hpm := psum_le (fun p : ByteArray × T => p.2.size) m j
          by_cases hjm : j < m.length
          · have hi := HM.out j hjm
            obtain ⟨bl, ol, c0, c1, c2, c3, c4, c4l, c4c, c5, c5l, c5c, rfl, hc, r0, r1, r2, r3, r4, r5, r6⟩ := openM hbx2 hm RM.out hjm (im j hjm)
            rw [hc] at hi
            have hs1 := psum_succ (fun p : ByteArray × T => p.2.size) m j hjm
            have hs2 := psum_le (fun p : ByteArray × T => p.2.size) m (j + 1)
            have hlim : 1 + psum T.size l l.length + psum (fun p : ByteArray × T => p.2.size) m j + m[j].2.size ≤ 4611686018427387904 := by omega
            have HI := Lib.hid hi
            have HS1 := Lib.hid hs1
            clear hc hi hs1
            go_wp2_with fail
            refine (HI.out _ (bbox hbx2 _ hbx2.size) (by omega)).mono ?_
            rintro e w1 ⟨rfl, hb1⟩
            have hb2 := bstep hbx (bunbox hb1 (Nat.le_refl _) (by simp)) hbx.size
            go_wp2_with fail
            go_roundw
            case rel => exact ⟨j + 1, by omega, by go_num, by rw [HS1.out]; go_num, hb2⟩
            case measure => simp [intOf]; omega
          · obtain rfl : j = m.length := by omega
            go_wp2_with fail
            go_ret
            exact ⟨ret_int (by rw [HS.out, HA.out, HB.out]), bstep (bunbox HO.out (Nat.le_refl _) (by omega)) hbx (by have := HO.out.size; simp at this; omega)⟩

set_option maxHeartbeats 400000 in
theorem rSize_any {w0 : World} {R : Nat → Prop} {t : T} {cs : Array Value} (h : Lies w0 R t cs) : ∀ w : World, Below w0.heap.size w0 w → t.size ≤ 4611686018427387904 →
    Calls Tryd.prog 52 #[.agg cs] w fun e w' => e = .returned (.int .i64 t.size) ∧ Below w.heap.size w w' := by
  induction h with
  | mk k b n s l m la lc ma mc cl cm hk hn hs hl hm rl rm ks il im ihl ihm =>
    intro w hw hz
    have ll := hl.le
    have lx := hl.big
    have ml := hm.le
    have mx := hm.big
    rw [T.size_mk] at hz
    have HL := Lib.hid ihl
    have HM := Lib.hid ihm
    have RL := Lib.hid rl
    have RM := Lib.hid rm
    have HS := Lib.hid (T.size_mk k b n s l m)
    have HA := Lib.hid (psum_all T.size l)
    have HB := Lib.hid (psum_all (fun p : ByteArray × T => p.2.size) m)
    clear ihl ihm rl rm
    go_enter Tryd.func52, Tryd.ntmps52
    go_wp2_with fail
    go_loopw [3, 4] (fun vn vi wr => ∃ j : Nat, j ≤ l.length ∧ vi = .int .i64 j ∧ vn = .int .i64 ↑(1 + psum T.size l j) ∧ Below (w.heap.size + 1) (w.alloc (.cells #[.int .i64 k, .bool b, .int .i64 n, .string s, .slice la l.length lc, .slice ma m.length mc] 25)) wr) (fun _ vi _ => l.length - (intOf vi).toNat)
    case atStart => exact ⟨0, by omega, rfl, by rw [psum_zero]; rfl, Below.refl _ _⟩
    case round =>
      obtain ⟨j, hj, rfl, rfl, hbw⟩ := hrel
      have hsz := hbw.size
      rw [World.size_alloc] at hsz
      have hbw2 := bstep hw (bunbox hbw (Nat.le_refl _) (by omega)) hw.size
      have hps := psum_le T.size l j
      have b4 := box_cell hbw (o := 4) (by omega) rfl
      by_cases hjl : j < l.length
      · have hi := HL.out j hjl
        obtain ⟨bl, ol, c0, c1, c2, c3, c4, c4l, c4c, c5, c5l, c5c, rfl, hc, r0, r1, r2, r3, r4, r5⟩ := openL hbw2 hl RL.out hjl (il j hjl)
        rw [hc] at hi
        have hs1 := psum_succ T.size l j hjl
        have hs2 := psum_le T.size l (j + 1)
        have hlim : 1 + psum T.size l j + l[j].size ≤ 4611686018427387904 := by omega
        have HI := Lib.hid hi
        have HS1 := Lib.hid hs1
        clear hc hi hs1
        go_wp2_with fail
        refine (HI.out _ hbw2 (by omega)).mono ?_
        rintro e w1 ⟨rfl, hb1⟩
        have hb2 := bstep hbw hb1 hsz
        go_wp2_with fail
        go_roundw
        case rel => exact ⟨j + 1, by omega, by go_num, by rw [HS1.out]; go_num, hb2⟩
        case measure => simp [intOf]; omega
      · obtain rfl : j = l.length := by omega
        go_wp2_with fail
        obtain ⟨wo, rfl⟩ : ∃ wo : World, wo = wr := ⟨_, rfl⟩
        clear b4
        have HO := Lib.hid hbw
        go_loopw [3, 5] (fun vn vi wr => ∃ j : Nat, j ≤ m.length ∧ vi = .int .i64 j ∧ vn = .int .i64 ↑(1 + psum T.size l l.length + psum (fun p : ByteArray × T => p.2.size) m j) ∧ Below wo.heap.size wo wr) (fun _ vi _ => m.length - (intOf vi).toNat)
        case atStart => exact ⟨0, by omega, rfl, by rw [psum_zero]; rfl, Below.refl _ _⟩
        case round =>
          obtain ⟨j, hj, rfl, rfl, hbx⟩ := hrel
          have hbx2 := bstep hbw2 hbx hbw2.size
          have hpm := psum_le (fun p : ByteArray × T => p.2.size) m j
          have b5 := box_cell (bstep HO.out hbx (by have := HO.out.size; simp at this; omega)) (o := 5) (by omega) rfl
          by_cases hjm : j < m.length
          · have hi := HM.out j hjm
            obtain ⟨bl, ol, c0, c1, c2, c3, c4, c4l, c4c, c5, c5l, c5c, rfl, hc, r0, r1, r2, r3, r4, r5, r6⟩ := openM hbx2 hm RM.out hjm (im j hjm)
            rw [hc] at hi
            have hs1 := psum_succ (fun p : ByteArray × T => p.2.size) m j hjm
            have hs2 := psum_le (fun p : ByteArray × T => p.2.size) m (j + 1)
            have hlim : 1 + psum T.size l l.length + psum (fun p : ByteArray × T => p.2.size) m j + m[j].2.size ≤ 4611686018427387904 := by omega
            have HI := Lib.hid hi
            have HS1 := Lib.hid hs1
            clear hc hi hs1
            go_wp2_with fail
            refine (HI.out _ hbx2 (by omega)).mono ?_
            rintro e w1 ⟨rfl, hb1⟩
            have hb2 := bstep hbx hb1 hbx.size
            go_wp2_with fail
            go_roundw
            case rel => exact ⟨j + 1, by omega, by go_num, by rw [HS1.out]; go_num, hb2⟩
            case measure => simp [intOf]; omega
          · obtain rfl : j = m.length := by omega
            go_wp2_with fail
            go_ret
            exact ⟨ret_int (by rw [HS.out, HA.out, HB.out]), bstep (bunbox HO.out (Nat.le_refl _) (by omega)) hbx (by have := HO.out.size; simp at this; omega)⟩

set_option maxHeartbeats 400000 in
theorem rDepth_any {w0 : World} {R : Nat → Prop} {t : T} {cs : Array Value} (h : Lies w0 R t cs) : ∀ w : World, Below w0.heap.size w0 w → t.depth ≤ 4611686018427387904 →
    Calls Tryd.prog 51 #[.agg cs] w fun e w' => e = .returned (.int .i64 t.depth) ∧ Below w.heap.size w w' := by
  induction h with
  | mk k b n s l m la lc ma mc cl cm hk hn hs hl hm rl rm ks il im ihl ihm =>
    intro w hw hz
    have ll := hl.le
    have lx := hl.big
    have ml := hm.le
    have mx := hm.big
    rw [T.depth_mk] at hz
    have HL := Lib.hid ihl
    have HM := Lib.hid ihm
    have RL := Lib.hid rl
    have RM := Lib.hid rm
    have HS := Lib.hid (T.depth_mk k b n s l m)
    have HA := Lib.hid (pmax_all T.depth l)
    have HB := Lib.hid (pmax_all (fun p : ByteArray × T => p.2.depth) m)
    clear ihl ihm rl rm
    go_enter Tryd.func51, Tryd.ntmps51
    go_wp2_with fail
    go_loopw [3, 4] (fun vn vi wr => ∃ j : Nat, j ≤ l.length ∧ vi = .int .i64 j ∧ vn = .int .i64 ↑(pmax T.depth l j) ∧ Below (w.heap.size + 1) (w.alloc (.cells #[.int .i64 k, .bool b, .int .i64 n, .string s, .slice la l.length lc, .slice ma m.length mc] 25)) wr) (fun _ vi _ => l.length - (intOf vi).toNat)
    case atStart => exact ⟨0, by omega, rfl, by rw [pmax_zero]; exact val_int (by omega), Below.refl _ _⟩
    case round =>
      obtain ⟨j, hj, rfl, rfl, hbw⟩ := hrel
      have hsz := hbw.size
      rw [World.size_alloc] at hsz
      have hbw2 := bstep hw (bunbox hbw (Nat.le_refl _) (by omega)) hw.size
      have hps := pmax_le T.depth l j
      have b4 := box_cell hbw (o := 4) (by omega) rfl
      by_cases hjl : j < l.length
      · have hi := HL.out j hjl
        obtain ⟨bl, ol, c0, c1, c2, c3, c4, c4l, c4c, c5, c5l, c5c, rfl, hc, r0, r1, r2, r3, r4, r5⟩ := openL hbw2 hl RL.out hjl (il j hjl)
        rw [hc] at hi
        have hs1 := pmax_succ T.depth l j hjl
        have hs2 := pmax_le T.depth l (j + 1)
        have hlim : max (pmax T.depth l j) (l[j].depth) ≤ 4611686018427387904 := by omega
        have HI := Lib.hid hi
        have HS1 := Lib.hid hs1
        clear hc hi hs1
        go_wp2_with fail
        refine (HI.out _ hbw2 (by omega)).mono ?_
        rintro e w1 ⟨rfl, hb1⟩
        have hb2 := bstep hbw hb1 hsz
        by_cases hd : (pmax T.depth l j : Int) < l[j].depth
        all_goals
          go_wp2_with fail
          go_roundw
          case rel => exact ⟨j + 1, by omega, by go_num, by rw [HS1.out]; exact val_int (by omega), hb2⟩
          case measure => simp [intOf]; omega
      · obtain rfl : j = l.length := by omega
        go_wp2_with fail
        obtain ⟨wo, rfl⟩ : ∃ wo : World, wo = wr := ⟨_, rfl⟩
        clear b4
        have HO := Lib.hid hbw
        go_loopw [3, 6] (fun vn vi wr => ∃ j : Nat, j ≤ m.length ∧ vi = .int .i64 j ∧ vn = .int .i64 ↑(max (pmax T.depth l l.length) (pmax (fun p : ByteArray × T => p.2.depth) m j)) ∧ Below wo.heap.size wo wr) (fun _ vi _ => m.length - (intOf vi).toNat)
        case atStart => exact ⟨0, by omega, rfl, by rw [pmax_zero]; exact val_int (by omega), Below.refl _ _⟩
        case round =>
          obtain ⟨j, hj, rfl, rfl, hbx⟩ := hrel
          have hbx2 := bstep hbw2 hbx hbw2.size
          have hpm := pmax_le (fun p : ByteArray × T => p.2.depth) m j
          have b5 := box_cell (bstep HO.out hbx (by have := HO.out.size; simp at this; omega)) (o := 5) (by omega) rfl
          by_cases hjm : j < m.length
          · have hi := HM.out j hjm
            obtain ⟨bl, ol, c0, c1, c2, c3, c4, c4l, c4c, c5, c5l, c5c, rfl, hc, r0, r1, r2, r3, r4, r5, r6⟩ := openM hbx2 hm RM.out hjm (im j hjm)
            rw [hc] at hi
            have hs1 := pmax_succ (fun p : ByteArray × T => p.2.depth) m j hjm
            have hs2 := pmax_le (fun p : ByteArray × T => p.2.depth) m (j + 1)
            have hlim : max (max (pmax T.depth l l.length) (pmax (fun p : ByteArray × T => p.2.depth) m j)) m[j].2.depth ≤ 4611686018427387904 := by omega
            have HI := Lib.hid hi
            have HS1 := Lib.hid hs1
            clear hc hi hs1
            go_wp2_with fail
            refine (HI.out _ hbx2 (by omega)).mono ?_
            rintro e w1 ⟨rfl, hb1⟩
            have hb2 := bstep hbx hb1 hbx.size
            by_cases hd : (max (pmax T.depth l l.length) (pmax (fun p : ByteArray × T => p.2.depth) m j) : Nat) < (m[j].2.depth : Int)
            all_goals
              go_wp2_with fail
              go_roundw
              case rel => exact ⟨j + 1, by omega, by go_num, by rw [HS1.out]; exact val_int (by omega), hb2⟩
              case measure => simp [intOf]; omega
          · obtain rfl : j = m.length := by omega
            go_wp2_with fail
            go_ret
            exact ⟨ret_int (by rw [HS.out, HA.out, HB.out]; omega), bstep (bunbox HO.out (Nat.le_refl _) (by omega)) hbx (by have := HO.out.size; simp at this; omega)⟩

end Go.Proofs.YtbmlmcoepmbelaaDoor
