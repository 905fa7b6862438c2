/-
  What counts as true: package tree's Truth and the reference's.
-/
import Derived.Test.YtclkinokmpcigaaGreatDoorAwake
import Derived.Lib.QuietBelow
set_option linter.unusedVariables false
set_option linter.unusedSimpArgs false
namespace Go.Proofs.YtclkinokmpcigaaGreatDoor
open Go.RowKit Go.Sort

def nz (n : Int) : Bool := n != 0
def ne0 (s : ByteArray) : Bool := !s.toList.isEmpty
def pos (n : Nat) : Bool := decide (0 < n)

theorem isKind_any (k : Int) (w : World) : Calls Tryz.prog 66 #[.int .i64 k] w fun e w' => e = .returned (.bool (decide (0 ≤ k) && decide (k ≤ 5))) ∧ w = w' := by
  by_cases h0 : 0 ≤ k
  · by_cases h5 : k ≤ 5
    · go_enter Tryz.func66, Tryz.ntmps66
      go_wp2_with fail
      go_ret
      exact ⟨ret_bool (by simp [h0, h5]), rfl⟩
    · go_enter Tryz.func66, Tryz.ntmps66
      go_wp2_with fail
      go_ret
      exact ⟨ret_bool (by simp [h0, h5]), rfl⟩
  · go_enter Tryz.func66, Tryz.ntmps66
    go_wp2_with fail
    go_ret
    exact ⟨ret_bool (by simp; omega), rfl⟩

theorem Tryz.structB : ∃ d, Tryz.prog.underlying 94 = some d ∧ (match d with | .struct _ | .array _ _ => true | _ => false) = true := ⟨_, Tryz.underlying94, rfl⟩
theorem Tryz.sizeB : (Tryz.prog.info? 94).map (·.size) = some 6 := by kernel_rfl

theorem tparts_any (k : Int) (b : Bool) (n : Int) (s : ByteArray) (la : Option Addr) (ll lc : Nat) (ma : Option Addr) (ml mc : Nat) (w : World) :
    Calls Tryz.prog 67 #[.agg #[.int .i64 k, .bool b, .int .i64 n, .string s, .slice la ll lc, .slice ma ml mc]] w fun e w' => e = .returned (.agg #[.bool false, .bool b, .bool (nz n), .bool (ne0 s), .bool (pos ll), .bool (pos ml)]) ∧ Below w.heap.size w w' := by
  go_enter Tryz.func67, Tryz.ntmps67
  go_wp2_with fail
  obtain ⟨dd, hu, hdd⟩ := Tryz.structB
  refine ret_read (w.heap.size + 1) #[.bool false, .bool b, .bool (nz n), .bool (ne0 s), .bool (pos ll), .bool (pos ml)] Tryz.results67 rfl rfl hdd hu Tryz.sizeB (fun i hi => ?_) ?_
  · rw [show w.heap.size + 1 = (w.alloc (.cells #[.int .i64 k, .bool b, .int .i64 n, .string s, .slice la ll lc, .slice ma ml mc] 27)).heap.size by simp, World.cell?_alloc_new]
    exact Array.getElem?_eq_getElem hi
  · exact ⟨rfl, ((Below.refl _ _).alloc (Nat.le_refl _) _).alloc (by simp) _⟩

/-- What counts as true. -/
def countsB (k : Int) (b : Bool) (n : Int) (s : ByteArray) (ll ml : Nat) : Bool := if k = 1 then b else if k = 2 then nz n else if k = 3 then ne0 s else if k = 4 then pos ll else if k = 5 then pos ml else false

theorem Tryz.index_bools (b : Bool) (n : Int) (s : ByteArray) (ll ml : Nat) (w : World) :
    (Instr.index 94 (.agg #[.bool false, .bool b, .bool (nz n), .bool (ne0 s), .bool (pos ll), .bool (pos ml)]) (.int .i64 0)).run Tryz.prog w = .ok (.bool false) w ∧
    (Instr.index 94 (.agg #[.bool false, .bool b, .bool (nz n), .bool (ne0 s), .bool (pos ll), .bool (pos ml)]) (.int .i64 1)).run Tryz.prog w = .ok (.bool b) w ∧
    (Instr.index 94 (.agg #[.bool false, .bool b, .bool (nz n), .bool (ne0 s), .bool (pos ll), .bool (pos ml)]) (.int .i64 2)).run Tryz.prog w = .ok (.bool (nz n)) w ∧
    (Instr.index 94 (.agg #[.bool false, .bool b, .bool (nz n), .bool (ne0 s), .bool (pos ll), .bool (pos ml)]) (.int .i64 3)).run Tryz.prog w = .ok (.bool (ne0 s)) w ∧
    (Instr.index 94 (.agg #[.bool false, .bool b, .bool (nz n), .bool (ne0 s), .bool (pos ll), .bool (pos ml)]) (.int .i64 4)).run Tryz.prog w = .ok (.bool (pos ll)) w ∧
    (Instr.index 94 (.agg #[.bool false, .bool b, .bool (nz n), .bool (ne0 s), .bool (pos ll), .bool (pos ml)]) (.int .i64 5)).run Tryz.prog w = .ok (.bool (pos ml)) w := by
  refine ⟨?_, ?_, ?_, ?_, ?_, ?_⟩ <;> kernel_rfl

set_option maxHeartbeats 800000 in
theorem tTruth_any (k : Int) (b : Bool) (n : Int) (s : ByteArray) (la : Option Addr) (ll lc : Nat) (ma : Option Addr) (ml mc : Nat) (w : World) :
    Calls Tryz.prog 30 #[.agg #[.int .i64 k, .bool b, .int .i64 n, .string s, .slice la ll lc, .slice ma ml mc]] w fun e w' => e = .returned (.bool (countsB k b n s ll ml)) ∧ Below w.heap.size w w' := by
  have HB := (Below.refl w.heap.size w).alloc (Nat.le_refl _) (.cells #[.int .i64 k, .bool b, .int .i64 n, .string s, .slice la ll lc, .slice ma ml mc] 27)
  have hA : ∀ j, (w.alloc (.cells #[.int .i64 k, .bool b, .int .i64 n, .string s, .slice la ll lc, .slice ma ml mc] 27)).cell? ⟨w.heap.size, j, none⟩ = (#[.int .i64 k, .bool b, .int .i64 n, .string s, .slice la ll lc, .slice ma ml mc] : Array Value)[j]? := fun j => by rw [World.cell?_alloc_new]
  have a0 : _ = some (Value.int .i64 k) := hA 0
  have a1 : _ = some (Value.bool b) := hA 1
  have a2 : _ = some (Value.int .i64 n) := hA 2
  have a3 : _ = some (Value.string s) := hA 3
  have a4 : _ = some (Value.slice la ll lc) := hA 4
  have a5 : _ = some (Value.slice ma ml mc) := hA 5
  have r0 := cell_regrown a0
  have r1 := cell_regrown a1
  have r2 := cell_regrown a2
  have r3 := cell_regrown a3
  have r4 := cell_regrown a4
  have r5 := cell_regrown a5
  clear hA
  have KK := fun dd os => Calls.regrown_of ((isKind_any k (grow (redrawn (w.alloc (.cells #[.int .i64 k, .bool b, .int .i64 n, .string s, .slice la ll lc, .slice ma ml mc] 27)) dd) os)).mono (fun e w' (h : _ ∧ _) => (⟨h.1, h.2 ▸ Below.refl _ _⟩ : e = .returned (.bool (decide (0 ≤ k) && decide (k ≤ 5))) ∧ Below _ _ w')))
  have PP := fun dd os => Calls.regrown_of (tparts_any k b n s la ll lc ma ml mc (grow (redrawn (w.alloc (.cells #[.int .i64 k, .bool b, .int .i64 n, .string s, .slice la ll lc, .slice ma ml mc] 27)) dd) os))
  by_cases hk : 0 ≤ k ∧ k ≤ 5
  · have e1 : (decide (0 ≤ k) && decide (k ≤ 5)) = true := by simp [hk]
    rw [e1] at KK
    rcases (by omega : k = 0 ∨ k = 1 ∨ k = 2 ∨ k = 3 ∨ k = 4 ∨ k = 5) with rfl | rfl | rfl | rfl | rfl | rfl
    all_goals
      clear e1 hk
      have i0 := fun w => (Tryz.index_bools b n s ll ml w).1
      have i1 := fun w => (Tryz.index_bools b n s ll ml w).2.1
      have i2 := fun w => (Tryz.index_bools b n s ll ml w).2.2.1
      have i3 := fun w => (Tryz.index_bools b n s ll ml w).2.2.2.1
      have i4 := fun w => (Tryz.index_bools b n s ll ml w).2.2.2.2.1
      have i5 := fun w => (Tryz.index_bools b n s ll ml w).2.2.2.2.2
      go_enter Tryz.func30, Tryz.ntmps30
      go_wp2_with fail
      refine wp_region_quiet_below (by kernel_rfl) (by kernel_rfl) ?_
      repeat (go_big_quiet_step (fail))
      go_big_quiet_step (exact KK _ _)
      repeat (go_big_quiet_step (fail))
      go_big_quiet_step (exact PP _ _)
      repeat (go_big_quiet_step (fail))
      refine wpQuiet_nil ?_
      intro _ hw'
      obtain ⟨⟨dq, osq⟩, hw''⟩ := hw'
      subst hw''
      simp only []
      go_wp2_with fail
      go_ret
      exact ⟨rfl, bstep HB (below_regrown _ dq osq) HB.size⟩
  · have e1 : (decide (0 ≤ k) && decide (k ≤ 5)) = false := by
      rcases (by omega : ¬ 0 ≤ k ∨ ¬ k ≤ 5) with h | h <;> simp [h]
    rw [e1] at KK
    have hc : countsB k b n s ll ml = false := by
      unfold countsB
      rw [if_neg (by omega), if_neg (by omega), if_neg (by omega), if_neg (by omega), if_neg (by omega)]
    rw [hc]
    clear e1 hk PP hc
    go_enter Tryz.func30, Tryz.ntmps30
    go_wp2_with fail
    refine wp_region_quiet_below (by kernel_rfl) (by kernel_rfl) ?_
    repeat (go_big_quiet_step (fail))
    go_big_quiet_step (exact KK _ _)
    repeat (go_big_quiet_step (fail))
    refine wpQuiet_nil ?_
    intro _ hw'
    obtain ⟨⟨dq, osq⟩, hw''⟩ := hw'
    subst hw''
    simp only []
    go_wp2_with fail
    go_ret
    exact ⟨rfl, bstep HB (below_regrown _ dq osq) HB.size⟩

end Go.Proofs.YtclkinokmpcigaaGreatDoor
