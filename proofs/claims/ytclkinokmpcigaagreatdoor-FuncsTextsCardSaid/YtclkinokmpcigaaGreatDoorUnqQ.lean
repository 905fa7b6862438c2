/-
  Package scalar's Unquote of a text in double quotes, and of one in none; Print of nothing and of a truth.
-/
import Derived.Test.YtclkinokmpcigaaGreatDoorDouble
import Derived.Test.YtclkinokmpcigaaGreatDoorShelf
set_option linter.unusedVariables false
set_option linter.unusedSimpArgs false
namespace Go.Proofs.YtclkinokmpcigaaGreatDoor
open Go.RowKit

theorem dbl_esc : ∀ (l rest acc : List UInt8), dblL acc (l.flatMap escB ++ 34 :: rest) = some (acc ++ l, rest)
  | [], rest, acc => by
    show dblL acc (34 :: rest) = _
    rw [dbl_cons, if_pos (by decide), List.append_nil]
  | b :: l, rest, acc => by
    have ih := fun a => dbl_esc l rest a
    rw [List.flatMap_cons, List.append_assoc]
    have two : ∀ d x : UInt8, meantB d = some x → dblL acc (92 :: d :: (l.flatMap escB ++ 34 :: rest)) = some (acc ++ x :: l, rest) := fun d x h => by
      rw [dbl_cons, if_neg (by decide), if_neg (by decide), if_pos (by decide)]
      simp only [h]
      rw [ih]
      simp
    by_cases h1 : b = 10
    · subst h1
      exact two 110 10 (by decide)
    · by_cases h2 : b = 9
      · subst h2
        exact two 116 9 (by decide)
      · by_cases h3 : b = 34 ∨ b = 92
        · have e : escB b = [92, b] := by rw [escB, if_neg h1, if_neg h2, if_pos h3]
          rw [e]
          refine two b b ?_
          rcases h3 with rfl | rfl <;> decide
        · have e : escB b = [b] := by rw [escB, if_neg h1, if_neg h2, if_neg h3]
          rw [e]
          show dblL acc (b :: (l.flatMap escB ++ 34 :: rest)) = _
          have n1 : b.toNat ≠ 34 := fun h => h3 (.inl (byteIs h))
          have n2 : b.toNat ≠ 92 := fun h => h3 (.inr (byteIs h))
          have n3 : b.toNat ≠ 10 := fun h => h1 (byteIs h)
          have n4 : b.toNat ≠ 9 := fun h => h2 (byteIs h)
          rw [dbl_cons, if_neg n1, if_neg (by omega), if_neg n2, ih]
          simp
theorem dbl_quote (l rest : List UInt8) : dblL [] ((quoteL l ++ rest).drop 1) = some (l, rest) := by
  have : (quoteL l ++ rest).drop 1 = l.flatMap escB ++ 34 :: rest := by simp [quoteL]
  rw [this, dbl_esc]
  rfl

set_option maxHeartbeats 1000000 in
theorem cUnquote_quoted (s : ByteArray) (l rest : List UInt8) (hs : s.size ≤ 1000000000000) (hl : s.data.toList = quoteL l ++ rest) (w : World) :
    Calls Tryz.prog 11 #[.string s] w fun e w' => e = .returned (.tuple #[.string ⟨l.toArray⟩, .string ⟨rest.toArray⟩, .int .i64 0]) ∧ Below w.heap.size w w' := by
  have h1 : Hid (Lib.hasPrefix s.data.toList [34] = true) := by show _ = _; rw [hl]; simp [Lib.hasPrefix, quoteL]
  have h2 : Hid (dblL [] (s.extract 1 s.size).data.toList = some (l, rest)) := by show _ = _; rw [ext_drop, hl]; exact dbl_quote l rest
  have h3 : 1 ≤ s.size := by rw [Lib.size_eq, hl]; simp [quoteL]
  have h4 : (s.extract 1 s.size).size ≤ 1000000000000 := by simp; omega
  clear hl
  go_enter Tryz.func11, Tryz.ntmps11
  go_wp2_with (first
    | (go_at_call 16; refine (Tryz.strings_HasPrefix _ _ _).mono ?_; rintro e w1 ⟨he, hw⟩; rw [h1.out] at he; have hw2 := hw.symm; subst he hw2)
    | (go_at_call 17; refine (cdouble_any _ h4 _).mono ?_; rintro e w2 ⟨hb, he⟩; rw [h2.out] at he; simp only at he; subst he))
  go_ret3
  exact ⟨rfl, hb⟩


end Go.Proofs.YtclkinokmpcigaaGreatDoor
