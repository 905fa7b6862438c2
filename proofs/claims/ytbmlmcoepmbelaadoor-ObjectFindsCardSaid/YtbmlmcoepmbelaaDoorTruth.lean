/-
  What counts as true: package tree's Truth and the reference's.
-/
import Derived.Test.YtbmlmcoepmbelaaDoorMapTopM
import Derived.Lib.QuietBelow
set_option linter.unusedVariables false
set_option linter.unusedSimpArgs false
namespace Go.Proofs.YtbmlmcoepmbelaaDoor
open Go.RowKit Go.Sort

def nz (n : Int) : Bool := n != 0
def ne0 (s : ByteArray) : Bool := !s.toList.isEmpty
def pos (n : Nat) : Bool := decide (0 < n)

theorem isKind_any (k : Int) (w : World) : Calls Tryd.prog 92 #[.int .i64 k] w fun e w' => e = .returned (.bool (decide (0 ≤ k) && decide (k ≤ 5))) ∧ w = w' := by
  by_cases h0 : 0 ≤ k
  · by_cases h5 : k ≤ 5
    · go_enter Tryd.func92, Tryd.ntmps92
      go_wp2_with fail
      go_ret
      exact ⟨ret_bool (by simp [h0, h5]), rfl⟩
    · go_enter Tryd.func92, Tryd.ntmps92
      go_wp2_with fail
      go_ret
      exact ⟨ret_bool (by simp [h0, h5]), rfl⟩
  · go_enter Tryd.func92, Tryd.ntmps92
    go_wp2_with fail
    go_ret
    exact ⟨ret_bool (by simp; omega), rfl⟩

theorem Tryd.structB : ∃ d, Tryd.prog.underlying 109 = some d ∧ (match d with | .struct _ | .array _ _ => true | _ => false) = true := ⟨_, Tryd.underlying109, rfl⟩
theorem Tryd.sizeB : (Tryd.prog.info? 109).map (·.size) = some 6 := by kernel_rfl

theorem tparts_any (k : Int) (b : Bool) (n : Int) (s : ByteArray) (la : Option Addr) (ll lc : Nat) (ma : Option Addr) (ml mc : Nat) (w : World) :
    Calls Tryd.prog 93 #[.agg #[.int .i64 k, .bool b, .int .i64 n, .string s, .slice la ll lc, .slice ma ml mc]] w fun e w' => e = .returned (.agg #[.bool false, .bool b, .bool (nz n), .bool (ne0 s), .bool (pos ll), .bool (pos ml)]) ∧ Below w.heap.size w w' := by
  go_enter Tryd.func93, Tryd.ntmps93
  go_wp2_with fail
  obtain ⟨dd, hu, hdd⟩ := Tryd.structB
  refine ret_read (w.heap.size + 1) #[.bool false, .bool b, .bool (nz n), .bool (ne0 s), .bool (pos ll), .bool (pos ml)] Tryd.results93 rfl rfl hdd hu Tryd.sizeB (fun i hi => ?_) ?_
  · rw [show w.heap.size + 1 = (w.alloc (.cells #[.int .i64 k, .bool b, .int .i64 n, .string s, .slice la ll lc, .slice ma ml mc] 25)).heap.size by simp, World.cell?_alloc_new]
    exact Array.getElem?_eq_getElem hi
  · exact ⟨rfl, ((Below.refl _ _).alloc (Nat.le_refl _) _).alloc (by simp) _⟩

/-- What counts as true. -/
def countsB (k : Int) (b : Bool) (n : Int) (s : ByteArray) (ll ml : Nat) : Bool := if k = 1 then b else if k = 2 then nz n else if k = 3 then ne0 s else if k = 4 then pos ll else if k = 5 then pos ml else false

theorem Tryd.index_bools (b : Bool) (n : Int) (s : ByteArray) (ll ml : Nat) (w : World) :
    (Instr.index 109 (.agg #[.bool false, .bool b, .bool (nz n), .bool (ne0 s), .bool (pos ll), .bool (pos ml)]) (.int .i64 0)).run Tryd.prog w = .ok (.bool false) w ∧
    (Instr.index 109 (.agg #[.bool false, .bool b, .bool (nz n), .bool (ne0 s), .bool (pos ll), .bool (pos ml)]) (.int .i64 1)).run Tryd.prog w = .ok (.bool b) w ∧
    (Instr.index 109 (.agg #[.bool false, .bool b, .bool (nz n), .bool (ne0 s), .bool (pos ll), .bool (pos ml)]) (.int .i64 2)).run Tryd.prog w = .ok (.bool (nz n)) w ∧
    (Instr.index 109 (.agg #[.bool false, .bool b, .bool (nz n), .bool (ne0 s), .bool (pos ll), .bool (pos ml)]) (.int .i64 3)).run Tryd.prog w = .ok (.bool (ne0 s)) w ∧
    (Instr.index 109 (.agg #[.bool false, .bool b, .bool (nz n), .bool (ne0 s), .bool (pos ll), .bool (pos ml)]) (.int .i64 4)).run Tryd.prog w = .ok (.bool (pos ll)) w ∧
    (Instr.index 109 (.agg #[.bool false, .bool b, .bool (nz n), .bool (ne0 s), .bool (pos ll), .bool (pos ml)]) (.int .i64 5)).run Tryd.prog w = .ok (.bool (pos ml)) w := by
  refine ⟨?_, ?_, ?_, ?_, ?_, ?_⟩ <;> kernel_rfl

end Go.Proofs.YtbmlmcoepmbelaaDoor
