/-
  Package tree's Map of nothing.
-/
import Derived.Test.YtcafackiofncmaaMapTop
import Derived.Test.YtcafackiofncmaaDrop
set_option linter.unusedVariables false
set_option linter.unusedSimpArgs false
namespace Go.Proofs.Ytcafackiofncmaa
open Go.RowKit Go.Sort

set_option maxRecDepth 100000 in
set_option maxHeartbeats 800000 in
theorem tMap_nil (w : World) : Calls Try.prog 21 #[.slice none 0 0] w fun e w' => e = .returned (.agg #[.int .i64 5, .bool false, .int .i64 0, .string ⟨#[]⟩, .slice none 0 0, .slice none 0 0]) ∧ Below w.heap.size w w' := by
  go_enter Try.func21, Try.ntmps21
  go_wp2_with fail
  refine (sCloneP_zero _).mono ?_
  rintro e w1 ⟨a, c, rfl, hn, hc, hB⟩
  obtain ⟨z1, z2⟩ := one_boxD hB
  have HB := Lib.hid (bunbox hB (Nat.le_refl w.heap.size) (by simp))
  clear hB hn
  go_wp2_with fail
  refine (sort_zero _ _ _).mono ?_
  rintro e w2 ⟨rfl, rfl⟩
  go_wp2_with fail
  refine wp_loop_rounds 1 ?_
  rw [rounds_succ]
  go_wp2_with fail
  obtain ⟨dd, hu, hdd⟩ := Try.structV
  refine ret_cells w1 w.heap.size [.int .i64 5, .bool false, .int .i64 0, .string ⟨#[]⟩, .slice none 0 0, .slice none 0 0] rfl Try.results21 rfl rfl hdd hu Try.sizeV (fun i hi => ⟨_, (z1 i).trans (Array.getElem?_eq_getElem (show i < 6 from hi))⟩) ?_
  exact ⟨rfl, setRow_below _ (Nat.le_refl _) _ _ _ HB.out⟩

end Go.Proofs.Ytcafackiofncmaa
