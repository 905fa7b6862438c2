/-
  Package scalar's single: a text in single quotes, read.
-/
import Derived.Test.YtbdkfahlmbkngaaDoorSingleP
import Derived.Test.YtbdkfahlmbkngaaDoorBuild
set_option linter.unusedVariables false
set_option linter.unusedSimpArgs false
namespace Go.Proofs.YtbdkfahlmbkngaaDoor
open Go.RowKit

theorem builder_same {B b : Nat} {bs : List Value} {w w' : World} (hh : w'.heap = w.heap) (h : Lib.IsBuilder 71 5 B b bs w) : Lib.IsBuilder 71 5 B b bs w' := by
  unfold Lib.IsBuilder Lib.BuilderAt World.ownsRow at h ⊢
  rw [hh]
  exact h
def strN : Value → Nat
  | .string s => s.size
  | _ => 0
/-- A text in a builder of one's own. -/
def Built (w0 wr : World) (acc : List UInt8) : Prop := Lib.IsBuilder 71 5 w0.heap.size w0.heap.size (Lib.byteCells acc) wr ∧ Below w0.heap.size w0 wr

theorem Built.drewN {w0 wr : World} {acc : List UInt8} (h : Built w0 wr acc) (n : Nat) : Built w0 (wr.drewN n) acc := ⟨builder_same rfl h.1, bdrewN h.2 n⟩
theorem built_string {w0 w1 : World} {acc : List UInt8} (h : Built w0 w1 acc) (s : ByteArray) (hn : acc.length + s.size ≤ 1000000000000) :
    Calls Tryd.prog 56 #[.pointer (some ⟨w0.heap.size, 0, none⟩), .string s] w1 fun e w' => e = .returned (.tuple #[.int .i64 s.size, .nilIface]) ∧ Built w0 w' (acc ++ s.data.toList) := by
  refine (writeString_any _ _ _ s w1 h.1 (by rw [Lib.byteCells_length]; omega) h.2.size).mono ?_
  rintro e w' ⟨rfl, k1, k2⟩
  refine ⟨rfl, .inr ?_, h.2.trans k2⟩
  rw [Lib.byteCells_append]
  exact k1
theorem built_byte {w0 w1 : World} {acc : List UInt8} (h : Built w0 w1 acc) (hn : acc.length ≤ 1000000000000) :
    Calls Tryd.prog 58 #[.pointer (some ⟨w0.heap.size, 0, none⟩), .int .u8 39] w1 fun e w' => e = .returned .nilIface ∧ Built w0 w' (acc ++ [39]) := by
  refine (writeByte_any _ _ _ 39 w1 h.1 (by rw [Lib.byteCells_length]; omega) h.2.size).mono ?_
  rintro e w' ⟨rfl, k1, k2⟩
  refine ⟨rfl, .inr ?_, h.2.trans k2⟩
  rw [Lib.byteCells_append]
  exact k1
theorem built_out {w0 w1 : World} {acc : List UInt8} (h : Built w0 w1 acc) :
    Calls Tryd.prog 57 #[.pointer (some ⟨w0.heap.size, 0, none⟩)] w1 fun e w' => e = .returned (.string ⟨acc.toArray⟩) ∧ Below w0.heap.size w0 w' := by
  refine (Tryd.Builder_String_any _ _ acc w1 h.1 h.2.size).mono ?_
  rintro e w' ⟨rfl, k⟩
  exact ⟨rfl, h.2.trans k⟩

set_option maxRecDepth 100000 in
set_option maxHeartbeats 4000000 in
theorem csingle_any (s : ByteArray) (hs : s.size ≤ 1000000) (m : Int) (w : World) (hm : w.cell? ⟨3, 0, none⟩ = some (.int .i64 m)) (h0 : 3 < w.heap.size) :
    Calls Tryd.prog 40 #[.string s] w (DoubleIn (sglL [] s.data.toList) w) := by
  have HM := Lib.hid hm
  clear hm
  have hB0 : Hid (Built w (w.alloc (.cells #[.pointer none, .slice none 0 0] 71)) []) := ⟨Lib.fresh_isBuilder 71 5 w, (Below.refl _ _).alloc (Nat.le_refl _) _⟩
  go_enter Tryd.func40, Tryd.ntmps40
  go_wp2_with fail
  go_loopw [0] (fun v wr => ∃ (x : ByteArray) (acc : List UInt8), v = .string x ∧ acc.length + x.size ≤ s.size ∧ Built w wr acc ∧ Hid (sglL [] s.data.toList = sglL acc x.data.toList)) (fun v _ => strN v)
  case atStart => exact ⟨s, [], rfl, by simp, hB0.out, rfl⟩
  case round =>
    obtain ⟨x, acc, rfl, hal, hbt, HD⟩ := hrel
    clear hB0
    have HBT := Lib.hid hbt
    have HM1 : Hid (wr.cell? ⟨3, 0, none⟩ = some (.int .i64 m)) := (hbt.2.cell (p := ⟨3, 0, none⟩) h0).trans HM.out
    clear hbt
    rcases hcut : Lib.cut x.data.toList [39] with ⟨p, q, found⟩
    have HC := Lib.hid hcut
    obtain ⟨k1, k2⟩ := sgl_cut x.data.toList acc p q found hcut
    clear hcut
    have hxz := Lib.size_eq x
    cases found
    · have HX : Hid (sglL [] s.data.toList = none) := HD.out.trans (k1 rfl)
      clear k1 k2 hxz
      go_wp2_with (go_at_call 55; refine (Tryd.strings_Cut _ _ m _ (by omega) HM1.out).mono ?_; rintro e w1 ⟨he, nq, rfl⟩; rw [HC.out] at he; subst he)
      go_ret3
      exact dbl_fin HX.out ⟨(HBT.out.drewN nq).2, rfl⟩
    · obtain ⟨k3, k4⟩ := k2 rfl
      have hpz : (⟨p.toArray⟩ : ByteArray).size = p.length := Lib.size_eq _
      have hqz : (⟨q.toArray⟩ : ByteArray).size = q.length := Lib.size_eq _
      rw [← hxz] at k4
      clear k1 k2 hxz
      cases hp : Lib.hasPrefix q [39] with
      | false =>
        have HX : Hid (sglL [] s.data.toList = some (acc ++ p, q)) := (HD.out.trans k3).trans (sgl_end _ _ hp)
        have HP := Lib.hid hp
        clear hp k3
        go_wp2_with (first
          | (go_at_call 55; refine (Tryd.strings_Cut _ _ m _ (by omega) HM1.out).mono ?_; rintro e w1 ⟨he, nq, rfl⟩; rw [HC.out] at he; subst he; have B1 := Lib.hid (HBT.out.drewN nq))
          | (go_at_call 56; refine (built_string B1.out _ (by omega)).mono ?_; rintro e w2 ⟨rfl, b2⟩; have B2 := Lib.hid b2; clear b2)
          | (go_at_call 38; refine (Tryd.strings_HasPrefix _ _ _).mono ?_; rintro e w3 ⟨he, hw⟩; rw [HP.out] at he; have hw2 := hw.symm; subst he hw2)
          | (go_at_call 57; refine (built_out B2.out).mono ?_; rintro e w4 ⟨rfl, hb4⟩))
        go_ret3
        exact dbl_fin HX.out ⟨hb4, rfl⟩
      | true =>
        obtain ⟨r, rfl⟩ : ∃ r, q = 39 :: r := by
          cases q with
          | nil => cases hp
          | cons y r =>
            refine ⟨r, ?_⟩
            simp [Lib.hasPrefix, List.isPrefixOf] at hp
            rw [hp]
        have HX : Hid (sglL [] s.data.toList = sglL ((acc ++ p) ++ [39]) ((⟨(39 :: r).toArray⟩ : ByteArray).extract 1 (⟨(39 :: r).toArray⟩ : ByteArray).size).data.toList) := by
          show _ = _
          rw [ext_drop, HD.out, k3]
          exact sgl_two _ _
        have HP := Lib.hid hp
        have hq1 : 1 ≤ (⟨(39 :: r).toArray⟩ : ByteArray).size := by rw [hqz]; simp
        have hez : ((⟨(39 :: r).toArray⟩ : ByteArray).extract 1 (⟨(39 :: r).toArray⟩ : ByteArray).size).size = r.length := by
          rw [Lib.size_eq, ext_drop]
          rfl
        have HEZ : Hid (((⟨(39 :: r).toArray⟩ : ByteArray).extract 1 (r.length + 1)).size = r.length) := hez
        have hqr : (39 :: r).length = r.length + 1 := rfl
        rw [hqr] at k4
        clear hez hqr
        clear hp k3
        go_wp2_with (first
          | (go_at_call 55; refine (Tryd.strings_Cut _ _ m _ (by omega) HM1.out).mono ?_; rintro e w1 ⟨he, nq, rfl⟩; rw [HC.out] at he; subst he; have B1 := Lib.hid (HBT.out.drewN nq))
          | (go_at_call 56; refine (built_string B1.out _ (by omega)).mono ?_; rintro e w2 ⟨rfl, b2⟩; have B2 := Lib.hid b2; clear b2)
          | (go_at_call 38; refine (Tryd.strings_HasPrefix _ _ _).mono ?_; rintro e w3 ⟨he, hw⟩; rw [HP.out] at he; have hw2 := hw.symm; subst he hw2)
          | (go_at_call 58; refine (built_byte B2.out (by simp; omega)).mono ?_; rintro e w4 ⟨rfl, b4⟩; have B4 := Lib.hid b4; clear b4))
        go_roundw
        case rel => exact ⟨_, _, rfl, by have := HEZ.out; simp only [List.length_append, List.length_cons, List.length_nil]; omega, B4.out, HX.out⟩
        case measure => have := HEZ.out; simp only [strN]; omega

end Go.Proofs.YtbdkfahlmbkngaaDoor
