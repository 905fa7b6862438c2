/-
  Package funcs' Call of what answers a text; FuncsTexts' closure.
-/
import Derived.Test.YtclkinokmpcigaaGreatDoorFnGlue
import Derived.Test.YtclkinokmpcigaaGreatDoorFnAwake
set_option linter.unusedVariables false
set_option linter.unusedSimpArgs false
namespace Go.Proofs.YtclkinokmpcigaaGreatDoor
open Go.RowKit

theorem calls_txt {name : ByteArray} {k : Nat} (hk : k < 29) (he : (fnAt k).1 = name) {sa : Option Addr} {len sc : Nat} (hlo : (fnAt k).2.1 ≤ (len : Int)) (hhi : (len : Int) ≤ (fnAt k).2.2) {r : ByteArray} (hs : r.size ≤ 65536) (w : World) (hw : FnTab w)
    (H : ∀ w1, Below w.heap.size w w1 → w.heap.size < w1.heap.size → Calls Tryz.prog 14 #[.string name, .slice sa len sc] w1 fun e w' => e = .returned (.tuple #[.agg (cS r), .int .i64 0]) ∧ Below w1.heap.size w1 w') :
    Calls Tryz.prog 7 #[.string name, .slice sa len sc] w fun e w' => e = .returned (.tuple #[.agg (cS r), .int .i64 0]) ∧ Below w.heap.size w w' := by
  refine (fCall_any name k hk he (fun i hi => by rw [← he]; exact fn_first hk i hi) sa len sc hlo hhi (fun ds c w' => c = 0 ∧ ds = cS r) w (fun ds c w1 w2 hs hk h => h) hw fun w1 hw1 hlt => ?_).mono ?_
  · refine (H w1 hw1 hlt).mono ?_
    rintro e w' ⟨rfl, hb⟩
    exact ⟨_, _, _, _, _, _, _, _, _, _, 0, rfl, .inl ⟨rfl, hs⟩, ⟨rfl, rfl⟩, hb⟩
  · rintro e w' ⟨ds, c, rfl, ⟨rfl, rfl⟩, hb⟩
    exact ⟨rfl, hb⟩

set_option maxHeartbeats 1000000 in
theorem texts1_any (name : ByteArray) (sa : Option Addr) (len sc : Nat) (r : ByteArray) (w : World) (H : Calls Tryz.prog 7 #[.string name, .slice sa len sc] w fun e w' => e = .returned (.tuple #[.agg (cS r), .int .i64 0]) ∧ Below w.heap.size w w') :
    Calls Tryz.prog 6 #[.string name, .slice sa len sc] w fun e w' => e = .returned (.string r) ∧ Below w.heap.size w w' := by
  have CA := Lib.hid H
  clear H
  go_enter Tryz.func6, Tryz.ntmps6
  go_upto_region 2 with (go_at_call 7; refine CA.out.mono ?_; rintro e w2 ⟨rfl, hb⟩; have HB2 := Lib.hid hb; clear hb)
  have hbz := HB2.out.alloc HB2.out.size (.cells (cS r) 27)
  have HBZ := Lib.hid hbz
  have bx := Box6.new w2 (cS r) 27
  clear hbz
  generalize w2.alloc (.cells (cS r) 27) = z at HBZ bx ⊢
  obtain ⟨q0, q1, q2, q3, q4, q5⟩ := bx.six
  clear bx
  go_wp2_with fail
  go_ret
  exact ⟨rfl, HBZ.out⟩

end Go.Proofs.YtclkinokmpcigaaGreatDoor
