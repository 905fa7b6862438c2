/-
  Package slices' Equal of texts; package path's Begins; the law's Steps and awake.
-/
import Derived.Test.YtbbpipjadniafaaDoorPathQ
import Derived.Test.YtbbpipjadniafaaDoorText
set_option linter.unusedVariables false
set_option linter.unusedSimpArgs false
namespace Go.Proofs.YtbbpipjadniafaaDoor
open Go.RowKit

/-- Are these the same texts? -/
def sameS (xs ys : List ByteArray) : Bool := decide (xs = ys)
theorem same_up {xs ys : List ByteArray} (hl : xs.length = ys.length) : sameS xs ys = true ↔ ∀ i (h : i < xs.length) (h2 : i < ys.length), xs[i] = ys[i] := by
  rw [sameS, decide_eq_true_eq]
  exact ⟨fun e i h h2 => by subst e; rfl, fun h => List.ext_getElem hl h⟩

set_option maxHeartbeats 2000000 in
theorem equalS_any {w0 : World} {xs ys : List ByteArray} {a c : Option Addr} {ac cc : Nat} (h1 : SliceS w0 xs a ac) (h2 : SliceS w0 ys c cc) (w : World) (hw : Below w0.heap.size w0 w) :
    Calls Tryd.prog 21 #[.slice a xs.length ac, .slice c ys.length cc] w fun e w' => e = .returned (.bool (sameS xs ys)) ∧ Below w.heap.size w w' := by
  have H1 := Lib.hid h1
  have H2 := Lib.hid h2
  have l1 := h1.le
  have l2 := h2.le
  have b1 := h1.big
  have b2 := h2.big
  clear h1 h2
  by_cases hl : xs.length = ys.length
  case neg =>
    have hf : ((xs.length : Int) != (ys.length : Int)) = true := by rw [bne_iff_ne]; omega
    have HR : Hid (sameS xs ys = false) := by show _ = _; rw [sameS, decide_eq_false_iff_not]; exact fun e => hl (by rw [e])
    clear hl
    go_enter Tryd.func21, Tryd.ntmps21
    go_wp2_with fail
    go_ret
    exact ⟨ret_bool HR.out.symm, Below.refl _ _⟩
  case pos =>
    have hf : ((xs.length : Int) != (ys.length : Int)) = false := by rw [bne_eq_false_iff_eq]; omega
    have HU := Lib.hid (same_up hl)
    have HL := Lib.hid hl
    clear hl
    go_enter Tryd.func21, Tryd.ntmps21
    go_wp2_with fail
    go_loopw [13] (fun vi wr => ∃ j : Nat, j ≤ xs.length ∧ vi = .int .i64 j ∧ Hid (∀ i (h : i < xs.length) (h2 : i < ys.length), i < j → xs[i] = ys[i]) ∧ Below w.heap.size w wr) (fun vi _ => xs.length - (intOf vi).toNat)
    case atStart => exact ⟨0, by omega, rfl, fun i _ _ h => absurd h (Nat.not_lt_zero _), Below.refl _ _⟩
    case round =>
      obtain ⟨j, hj, rfl, hI, hbw⟩ := hrel
      by_cases hjl : j < xs.length
      · have hjy : j < ys.length := by rw [← HL.out]; exact hjl
        have hbr := bstep hw hbw hw.size
        obtain ⟨s1, o1, rfl, k1⟩ := H1.out.at hbr hjl
        obtain ⟨s2, o2, rfl, k2⟩ := H2.out.at hbr hjy
        by_cases he : xs[j] = ys[j]
        · have hx : (xs[j].toList == ys[j].toList) = true := by rw [he]; simp
          have HI2 : Hid (∀ i (h : i < xs.length) (h2 : i < ys.length), i < j + 1 → xs[i] = ys[i]) := fun i h h2 hi => by
            rcases Nat.lt_succ_iff_lt_or_eq.1 hi with h3 | rfl
            · exact hI.out i h h2 h3
            · exact he
          clear he
          go_upto_region 6 with fail
          go_quiet (fail)
          go_wp2_with fail
          go_roundw
          case rel => exact ⟨j + 1, by omega, by go_num, HI2, bdrewN hbw _⟩
          case measure => simp [intOf]; omega
        · have hx := str_ne he
          have HR : Hid (sameS xs ys = false) := by
            show _ = _
            cases hs : sameS xs ys with
            | false => rfl
            | true => exact absurd (HU.out.1 hs j hjl hjy) he
          clear he
          go_upto_region 6 with fail
          go_quiet (fail)
          go_wp2_with fail
          go_ret
          exact ⟨ret_bool HR.out.symm, bdrewN hbw _⟩
      · obtain rfl : j = xs.length := by omega
        have HR : Hid (sameS xs ys = true) := HU.out.2 fun i h h2 => hI.out i h h2 h
        go_wp2_with fail
        go_ret
        exact ⟨ret_bool HR.out.symm, hbw⟩

/-- Does a path begin as another one does? -/
def beginsB (ks ms : List ByteArray) : Bool := decide (ms.length ≤ ks.length) && sameS (ks.take ms.length) ms

set_option maxHeartbeats 2000000 in
theorem pBegins_any {w0 : World} {xs ys : List ByteArray} {a c : Option Addr} {ac cc : Nat} (h1 : SliceS w0 xs a ac) (h2 : SliceS w0 ys c cc) (w : World) (hw : Below w0.heap.size w0 w) :
    Calls Tryd.prog 10 #[.slice a xs.length ac, .slice c ys.length cc] w fun e w' => e = .returned (.bool (beginsB xs ys)) ∧ Below w.heap.size w w' := by
  have l1 := h1.le
  have b1 := h1.big
  have b2 := h2.big
  by_cases hl : ys.length ≤ xs.length
  case neg =>
    have HR : Hid (beginsB xs ys = false) := by show _ = _; rw [beginsB, decide_eq_false hl]; rfl
    go_enter Tryd.func10, Tryd.ntmps10
    go_wp2_with fail
    go_ret
    exact ⟨ret_bool HR.out.symm, Below.refl _ _⟩
  case pos =>
    have HE := equalS_any (h1.take ys.length hl) h2 w hw
    have e : (xs.take ys.length).length = ys.length := by rw [List.length_take]; omega
    rw [e] at HE
    have HR : Hid (sameS (xs.take ys.length) ys = beginsB xs ys) := by show _ = _; rw [beginsB, decide_eq_true hl]; rfl
    have HN := Lib.hid h1.ofNone
    have hyc : ys.length ≤ ac := by omega
    rw [HR.out] at HE
    have HE2 := Lib.hid HE
    clear h1 h2 e HE
    cases a with
    | some a0 =>
      obtain ⟨b, o, p⟩ := a0
      go_enter Tryd.func10, Tryd.ntmps10
      go_wp2_with (go_at_call 21; refine HE2.out.mono ?_; rintro e w2 ⟨rfl, hb⟩)
      go_ret
      exact ⟨rfl, hb⟩
    | none =>
      obtain rfl : ac = 0 := HN.out rfl
      have hy0 : ys.length = 0 := by omega
      rw [hy0] at HE2 ⊢
      have hx0 : xs.length = 0 := by omega
      rw [hx0]
      clear hl hyc l1 b1 b2 hy0 hx0
      go_enter Tryd.func10, Tryd.ntmps10
      go_wp2_with (go_at_call 21; refine HE2.out.mono ?_; rintro e w2 ⟨rfl, hb⟩)
      go_ret
      exact ⟨rfl, hb⟩

/-- May these be steps? -/
def stepsB (ks : List ByteArray) : Bool := ks.all keyB && decide (ks.length ≤ 14)

end Go.Proofs.YtbbpipjadniafaaDoor
