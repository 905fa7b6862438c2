/-
  TrimJoins, on lists of bytes: a template that is laid of texts and actions has just these tokens.
-/
import Derived.Test.YtomdkmhaohcofaaDoorTrimLaw
import Derived.Test.YtomdkmhaohcofaaDoorQuote
set_option linter.unusedVariables false
set_option linter.unusedSimpArgs false
namespace Go.Proofs.YtomdkmhaohcofaaDoor
open Go.RowKit

/-- A byte that may stand in an action. -/
def goodB (b : UInt8) : Bool := decide (32 < b.toNat) && !(b == 123) && !(b == 125) && !(b == 34) && !(b == 45) && !(b == 47)

theorem drop_none {p : UInt8 → Bool} {l : List UInt8} (h : ∀ b ∈ l, p b = false) : List.dropWhile p l = l := by
  cases l with
  | nil => rfl
  | cons b l => rw [List.dropWhile_cons, h b (List.mem_cons_self ..)]; rfl
theorem good_not {a : List UInt8} (h : ∀ b ∈ a, goodB b = true) (c : UInt8) (hc : goodB c = false) : c ∉ a := fun hm => by rw [h c hm] at hc; cases hc

theorem noPre {a : List UInt8} {c : UInt8} {r : List UInt8} (h : c ∉ a) : Lib.hasPrefix a (c :: r) = false := by
  cases hp : Lib.hasPrefix a (c :: r) with
  | false => rfl
  | true =>
    unfold Lib.hasPrefix at hp
    obtain ⟨t, ht⟩ := List.isPrefixOf_iff_prefix.1 hp
    exact absurd (by rw [← ht]; simp) h
theorem noSuf {a : List UInt8} {c : UInt8} {r : List UInt8} (h : c ∉ a) : Lib.hasSuffix a (r ++ [c]) = false := by
  cases hp : Lib.hasSuffix a (r ++ [c]) with
  | false => rfl
  | true =>
    unfold Lib.hasSuffix at hp
    obtain ⟨t, ht⟩ := List.isSuffixOf_iff_suffix.1 hp
    exact absurd (by rw [← ht]; simp) h

theorem readA_good {a : List UInt8} (h : ∀ b ∈ a, goodB b = true) : readA a = (a, false, false) := by
  have h45 : (45 : UInt8) ∉ a := good_not h 45 (by decide)
  have hset : ∀ b ∈ a, ([32, 9, 10] : List UInt8).contains b = false := fun b hb => by
    have := h b hb
    cases hc : ([32, 9, 10] : List UInt8).contains b with
    | false => rfl
    | true =>
      have : b = 32 ∨ b = 9 ∨ b = 10 := by simpa using hc
      rcases this with rfl | rfl | rfl <;> (revert this; simp [h] at * <;> decide)
  rw [readA_more (fun e => h45 (by rw [e]; simp))]
  have h1 : Lib.hasPrefix a [45, 32] = false := noPre h45
  have h2 : Lib.trimPrefix a [45, 32] = a := by unfold Lib.trimPrefix; rw [h1]; rfl
  have h3 : Lib.hasSuffix a [32, 45] = false := noSuf (r := [32]) h45
  have h4 : Lib.trimSuffix a [32, 45] = a := by unfold Lib.trimSuffix; rw [h3]; rfl
  have h5 : Lib.trimS a [32, 9, 10] = a := by
    unfold Lib.trimS
    have h6 : Lib.trimRightS a [32, 9, 10] = a := by
      unfold Lib.trimRightS
      rw [drop_none (fun b hb => hset b (List.mem_reverse.1 hb)), List.reverse_reverse]
    rw [h6]
    unfold Lib.trimLeftS
    exact drop_none hset
  rw [h2, h1, h3, h4, h5]
theorem comment_good {a : List UInt8} (h : ∀ b ∈ a, goodB b = true) : commentA a = false := by
  unfold commentA
  rw [noPre (good_not h 47 (by decide))]
  simp

/-- What is laid so far has these tokens, whatever stands behind. -/
def Pass (S : List UInt8) (want : List Tok) : Prop := ∀ r, splitT (S ++ r) 0 false = (splitT r S.length false).map (want ++ ·)

theorem pass_nil : Pass [] [] := fun r => by
  show splitT r 0 false = (splitT r 0 false).map _
  cases splitT r 0 false <;> rfl

theorem pass_step {S t a : List UInt8} {want : List Tok} (hS : Pass S want) (ht : No2 t 123 123) (he : Lib.hasSuffix t [123] = false) (ha : ∀ b ∈ a, goodB b = true) :
    Pass (S ++ (t ++ (123 :: 123 :: (a ++ [125, 125])))) ((want ++ oneT ⟨false, t, S.length⟩) ++ [⟨true, a, S.length + t.length⟩]) := fun r => by
  rw [List.append_assoc, hS]
  have e1 : t ++ (123 :: 123 :: (a ++ [125, 125])) ++ r = t ++ 123 :: 123 :: (a ++ 125 :: 125 :: r) := by simp
  have h1 := cut_first (t := a ++ 125 :: 125 :: r) ht (fun j hj e => absurd e (noEnd he j hj))
  have h2 : lenG 0 0 (a ++ 125 :: 125 :: r) = (a.length : Nat) := by
    rw [lenG_plain a r 0 (fun b hb => ⟨fun e => good_not ha 34 (by decide) (e ▸ hb), fun e => good_not ha 125 (by decide) (e ▸ hb)⟩)]
    simp
  rw [e1, split_more h1 h2]
  have e2 : List.take a.length (a ++ 125 :: 125 :: r) = a := List.take_left' rfl
  have e3 : List.drop (a.length + 2) (a ++ 125 :: 125 :: r) = r := by
    rw [List.drop_append]
    simp
  rw [e2, e3, readA_good ha]
  simp only
  rw [left_ff]
  have o : ∀ n, actT a n = [⟨true, a, n⟩] := fun n => by rw [actT, if_neg (by rw [comment_good ha]; decide)]
  rw [o]
  have el : (S ++ (t ++ 123 :: 123 :: (a ++ [125, 125]))).length = S.length + t.length + (2 + a.length + 2) := by simp; omega
  rw [el]
  cases splitT r (S.length + t.length + (2 + a.length + 2)) false with
  | none => rfl
  | some us => simp

theorem pass_text {S t : List UInt8} {want : List Tok} (hS : Pass S want) (ht : No2 t 123 123) : splitT (S ++ t) 0 false = some (want ++ oneT ⟨false, t, S.length⟩) := by
  rw [hS, plain_one ht]
  rfl
theorem pass_end {S : List UInt8} {want : List Tok} (hS : Pass S want) : splitT S 0 false = some want := by
  have := hS []
  rw [List.append_nil] at this
  rw [this, split_last (text := []) (rest := []) (by decide)]
  show some (want ++ []) = _
  rw [List.append_nil]

end Go.Proofs.YtomdkmhaohcofaaDoor
