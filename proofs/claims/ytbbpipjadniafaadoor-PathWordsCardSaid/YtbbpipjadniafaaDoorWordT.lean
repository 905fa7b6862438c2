/-
  Are these the same texts; the reference's Begins.
-/
import Derived.Test.YtbbpipjadniafaaDoorPathS
import Derived.Test.YtbbpipjadniafaaDoorPathY
set_option linter.unusedVariables false
set_option linter.unusedSimpArgs false
namespace Go.Proofs.YtbbpipjadniafaaDoor
open Go.RowKit

theorem l2texts_any {w0 : World} {xs : List ByteArray} {a c : Option Addr} {ac cc : Nat} (h1 : SliceS w0 xs a ac) (h2 : SliceS w0 xs c cc) (w : World) (hw : Below w0.heap.size w0 w) :
    Calls Tryd.prog 7 #[.slice a xs.length ac, .slice c xs.length cc] w fun e w' => e = .returned (.bool true) ∧ Below w.heap.size w w' := by
  have H1 := Lib.hid h1
  have H2 := Lib.hid h2
  have l1 := h1.le
  have l2 := h2.le
  have b1 := h1.big
  clear h1 h2
  have hf : ((xs.length : Int) != (xs.length : Int)) = false := by simp
  go_enter Tryd.func7, Tryd.ntmps7
  go_wp2_with fail
  go_loopw [13] (fun vi wr => ∃ j : Nat, j ≤ xs.length ∧ vi = .int .i64 j ∧ Below w.heap.size w wr) (fun vi _ => xs.length - (intOf vi).toNat)
  case atStart => exact ⟨0, by omega, rfl, Below.refl _ _⟩
  case round =>
    obtain ⟨j, hj, rfl, hbw⟩ := hrel
    by_cases hjl : j < xs.length
    · have hbr := bstep hw hbw hw.size
      obtain ⟨s1, o1, rfl, k1⟩ := H1.out.at hbr hjl
      obtain ⟨s2, o2, rfl, k2⟩ := H2.out.at hbr hjl
      have hx : (xs[j].toList == xs[j].toList) = true := by simp
      go_upto_region 6 with fail
      go_quiet (fail)
      go_wp2_with fail
      go_roundw
      case rel => exact ⟨j + 1, by omega, by go_num, bdrewN hbw _⟩
      case measure => simp [intOf]; omega
    · obtain rfl : j = xs.length := by omega
      go_wp2_with fail
      go_ret
      exact ⟨rfl, hbw⟩

theorem begins_up {xs ys : List ByteArray} (hl : ys.length ≤ xs.length) (h : ∀ i (h1 : i < xs.length) (h2 : i < ys.length), xs[i] = ys[i]) : beginsB xs ys = true := by
  unfold beginsB
  rw [decide_eq_true hl, Bool.true_and, sameS, decide_eq_true_eq]
  apply List.ext_getElem
  · rw [List.length_take]; omega
  · intro i h1 h2
    rw [List.getElem_take]
    exact h i (by omega) h2
theorem begins_not {xs ys : List ByteArray} (j : Nat) (h2 : j < ys.length) (h : ∀ h1 : j < xs.length, xs[j] ≠ ys[j]) : beginsB xs ys = false := by
  cases e : beginsB xs ys with
  | false => rfl
  | true =>
    unfold beginsB at e
    rw [Bool.and_eq_true, decide_eq_true_eq, sameS, decide_eq_true_eq] at e
    obtain ⟨hl, e⟩ := e
    have h1 : j < xs.length := by omega
    have e2 : (xs.take ys.length)[j]? = ys[j]? := by rw [e]
    rw [List.getElem?_take, if_pos h2, List.getElem?_eq_getElem h1, List.getElem?_eq_getElem h2] at e2
    exact absurd (Option.some.inj e2) (h h1)

set_option maxHeartbeats 2000000 in
theorem r2Begins_any {w0 : World} {xs ys : List ByteArray} {a c : Option Addr} {ac cc : Nat} (h1 : SliceS w0 xs a ac) (h2 : SliceS w0 ys c cc) (w : World) (hw : Below w0.heap.size w0 w) :
    Calls Tryd.prog 11 #[.slice a xs.length ac, .slice c ys.length cc] w fun e w' => e = .returned (.bool (beginsB xs ys)) ∧ Below w.heap.size w w' := by
  have H1 := Lib.hid h1
  have H2 := Lib.hid h2
  have l1 := h1.le
  have l2 := h2.le
  have b1 := h1.big
  have b2 := h2.big
  clear h1 h2
  go_enter Tryd.func11, Tryd.ntmps11
  go_wp2_with fail
  go_loopw [5] (fun vi wr => ∃ j : Nat, j ≤ ys.length ∧ vi = .int .i64 j ∧ j ≤ xs.length ∧ Hid (∀ i (h : i < xs.length) (h2 : i < ys.length), i < j → xs[i] = ys[i]) ∧ Below w.heap.size w wr) (fun vi _ => ys.length - (intOf vi).toNat)
  case atStart => exact ⟨0, by omega, rfl, by omega, fun i _ _ h => absurd h (Nat.not_lt_zero _), Below.refl _ _⟩
  case round =>
    obtain ⟨j, hj, rfl, hjx, hI, hbw⟩ := hrel
    by_cases hjl : j < ys.length
    · have hbr := bstep hw hbw hw.size
      obtain ⟨s2, o2, rfl, k2⟩ := H2.out.at hbr hjl
      by_cases hx : j < xs.length
      · obtain ⟨s1, o1, rfl, k1⟩ := H1.out.at hbr hx
        have hz : ¬ ((j : Int) ≥ xs.length) := by omega
        by_cases he : xs[j] = ys[j]
        · have q1 : (xs[j].toList == ys[j].toList) = true := by rw [he]; simp
          have q2 : (xs[j].toList != ys[j].toList) = false := by rw [he]; simp
          have HI2 : Hid (∀ i (h : i < xs.length) (h2 : i < ys.length), i < j + 1 → xs[i] = ys[i]) := fun i h h2 hi => by
            rcases Nat.lt_succ_iff_lt_or_eq.1 hi with h3 | rfl
            · exact hI.out i h h2 h3
            · exact he
          clear he
          go_upto_region 4 with fail
          go_quiet (fail)
          go_wp2_with fail
          go_roundw
          case rel => exact ⟨j + 1, by omega, by go_num, by omega, HI2.out, bdrewN hbw _⟩
          case measure => simp [intOf]; omega
        · have HR : Hid (beginsB xs ys = false) := begins_not j hjl fun _ => he
          have q1 : (xs[j].toList == ys[j].toList) = false := by
            rw [beq_eq_false_iff_ne]
            intro e
            exact he (by rw [← Lib.mk_data xs[j], ← Lib.mk_data ys[j], ← Lib.toList_data, ← Lib.toList_data, e])
          have q2 : (xs[j].toList != ys[j].toList) = true := by rw [bne, q1]; rfl
          clear he
          go_upto_region 4 with fail
          go_quiet (fail)
          go_wp2_with fail
          go_ret
          exact ⟨ret_bool HR.out.symm, bdrewN hbw _⟩
      · have HR : Hid (beginsB xs ys = false) := begins_not j hjl fun h => absurd h hx
        have hz : ((j : Int) ≥ xs.length) := by omega
        go_upto_region 4 with fail
        go_quiet (fail)
        go_wp2_with fail
        go_ret
        exact ⟨ret_bool HR.out.symm, bdrewN hbw _⟩
    · have HR : Hid (beginsB xs ys = true) := begins_up (by omega) fun i h1 h2 => hI.out i h1 h2 (by omega)
      go_wp2_with fail
      go_ret
      exact ⟨ret_bool HR.out.symm, hbw⟩
end Go.Proofs.YtbbpipjadniafaaDoor
