/-
  The reference's Compare: it is package tree's.
-/
import Derived.Test.YtcafackiofncmaaGood
import Derived.Test.YtcafackiofncmaaCloneP
import Derived.Lib.QuietBelow
set_option linter.unusedVariables false
set_option linter.unusedSimpArgs false
namespace Go.Proofs.Ytcafackiofncmaa
open Go.RowKit Go.Sort

def befV (a b : Bool) : Int := if a = true then -1 else if b = true then 1 else 0
theorem below_of_eq {P : Program} {f : FuncId} {args : Array Value} {w : World} {v : Value} (h : Calls P f args w fun e w' => e = .returned v ∧ w = w') : Calls P f args w fun e w' => e = .returned v ∧ Below w.heap.size w w' :=
  h.mono fun e w' h => ⟨h.1, h.2 ▸ Below.refl _ _⟩

theorem bytesLess_G : ∀ a b : List UInt8, cmpG cmpU a b = befV (Op.bytesLess a b) (Op.bytesLess b a)
  | [], [] => by rw [cmpG]; simp [Op.bytesLess, befV]
  | [], _ :: _ => by rw [cmpG]; simp [Op.bytesLess, befV]
  | _ :: _, [] => by rw [cmpG]; simp [Op.bytesLess, befV]
  | x :: r, y :: q => by
    rw [cmpG, bytesLess_G r q, Op.bytesLess, Op.bytesLess]
    unfold cmpU cmpI befV
    by_cases h : x.toNat < y.toNat
    · simp [h, UInt8.lt_iff_toNat_lt]
    · by_cases h2 : y.toNat < x.toNat
      · have hne : x ≠ y := fun e => by subst e; omega
        simp [h, h2, UInt8.lt_iff_toNat_lt, hne]
      · have e : x = y := by
          have : x.toNat = y.toNat := by omega
          exact UInt8.toNat_inj.1 this
        subst e
        simp
theorem cmpS_less (a b : ByteArray) : cmpS a b = befV (Op.bytesLess a.toList b.toList) (Op.bytesLess b.toList a.toList) := by
  unfold cmpS
  rw [compareBytes_G, bytesLess_G, ByteArray.toList_eq, ByteArray.toList_eq]
theorem cmpS_ne {a b : ByteArray} (h : a ≠ b) : cmpS a b ≠ 0 := fun e => h (cmpS_zero e)
theorem cmpS_before {a b : ByteArray} (h : a ≠ b) : cmpS a b = befV (Op.bytesLess a.toList b.toList) true := by
  unfold befV
  have h1 := cmpS_less a b
  unfold befV at h1
  have h2 := cmpS_ne h
  by_cases e : Op.bytesLess a.toList b.toList = true
  · rw [if_pos e] at h1 ⊢; exact h1
  · rw [if_neg e] at h1 ⊢
    by_cases e2 : Op.bytesLess b.toList a.toList = true
    · rw [if_pos e2] at h1; rw [h1]; rfl
    · rw [if_neg e2] at h1; exact absurd h1 h2
theorem less_gtr (a b : ByteArray) : Op.bytesLess b.toList a.toList = (!Op.bytesLess a.toList b.toList && !a.toList == b.toList) := by
  have h1 := cmpS_less a b
  have h2 := cmpS_less b a
  have h3 := (ord_cmpS a).anti b
  rw [h1, h2] at h3
  by_cases e : a = b
  · subst e
    cases hx : Op.bytesLess a.toList a.toList with
    | true => rw [hx] at h3; exact absurd h3 (by decide)
    | false => simp
  · rw [str_ne e]
    have h4 := cmpS_ne e
    rw [h1] at h4
    revert h3 h4
    cases Op.bytesLess a.toList b.toList <;> cases Op.bytesLess b.toList a.toList <;> decide
theorem cmpS_gtr (a b : ByteArray) : cmpS a b = befV (Op.bytesLess a.toList b.toList) (!Op.bytesLess a.toList b.toList && !a.toList == b.toList) := (cmpS_less a b).trans (congrArg (befV _) (less_gtr a b))
theorem cmpP_key {p q : ByteArray × T} (h : p.1 ≠ q.1) : cmpP p q = cmpS p.1 q.1 := by unfold cmpP; rw [if_pos h]

end Go.Proofs.Ytcafackiofncmaa
