/-
  The table of powers of ten, out of what the rows list.
-/
import Derived.Test.YtfadijofnaepnaaDoorDoorWrap
import Derived.Test.YtfadijofnaepnaaDoorCPrintN
set_option linter.unusedVariables false
set_option linter.unusedSimpArgs false
namespace Go.Proofs.YtfadijofnaepnaaDoor
open Go.RowKit

theorem Tryd.gPowType : (Tryd.prog.globals[2]?).map (·.type) = some 107 := by kernel_rfl
theorem pow_data {H : Type} : (Rows.laid_internal_strconv_uint64pow10 : DataW H) = Lib.tabData .u64 Lib.pow10Tab := rfl

theorem pow_of_laid {W : World} {x1 x2 : String × DataW Unit} {rest : List (String × DataW Unit)} (h : laidMet Tryd.prog (x1 :: x2 :: ("internal/strconv.uint64pow10", Rows.laid_internal_strconv_uint64pow10) :: rest) W) : Pow10 W := by
  obtain ⟨ps, ⟨g0, t0, cs0, f0, p0, q0, hg0, ht0, hv0, hd0, ⟨g1, t1, cs1, f1, p1, q1, hg1, ht1, hv1, hd1, ⟨g, t, cs, fuel, p, q, hg, ht, hvar, hd, _, _⟩, _⟩, _⟩, _⟩ := h
  obtain rfl := Option.some.inj (Tryd.gPow.symm.trans hg)
  obtain rfl := Option.some.inj (Tryd.gPowType.symm.trans ht)
  rw [pow_data] at hd
  unfold Pow10 Lib.TabIs
  rw [hvar, ← Lib.cells_of_tab Tryd.underlying107 Tryd.underlying85 (by kernel_rfl) (by kernel_rfl) hd]

end Go.Proofs.YtfadijofnaepnaaDoor
