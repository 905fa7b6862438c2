/-
  What strings.ContainsFunc finds in a text by the runes that no word has.
-/
import Derived.Shelf.GgClosure.StringsIndexFunc
import Derived.Test.YtbbpipjadniafaaDoorWordR
set_option linter.unusedVariables false
set_option linter.unusedSimpArgs false
namespace Go.Proofs.YtbbpipjadniafaaDoor
open Go.Lib
theorem drop_get (s : ByteArray) (pos : Nat) (h : pos < s.size) : s.data.toList.drop pos = s.get! pos :: s.data.toList.drop (pos + 1) := by
  have h2 : pos < s.data.toList.length := by simpa using h
  rw [List.drop_eq_getElem_cons h2]
  congr 1
  show _ = s.data[pos]!
  rw [getElem!_pos s.data pos (by simpa using h2)]
  simp
theorem idx_from (s : ByteArray) : ∀ (f pos : Nat), s.size ≤ pos + f → decide (0 ≤ idxFuncFrom strangeR true s f pos) = !((s.data.toList.drop pos).all inWord)
  | 0, pos, h => by
    rw [List.drop_eq_nil_of_le (by simpa using h)]
    rfl
  | f + 1, pos, h => by
    unfold idxFuncFrom
    by_cases hp : pos < s.size
    · rw [if_pos hp, drop_get s pos hp, List.all_cons, strange_decode]
      cases hw : inWord (s.get! pos) with
      | true =>
        rw [if_neg (by decide), word_width s pos hw, idx_from s f (pos + 1) (by omega)]
        rfl
      | false =>
        rw [if_pos (show (!false) = true from rfl)]
        simp
    · rw [if_neg hp, List.drop_eq_nil_of_le (by simp; omega)]
      rfl
theorem idx_word (s : ByteArray) : decide (0 ≤ idxFunc strangeR true s) = !(s.data.toList.all inWord) := idx_from s s.size 0 (by omega)
end Go.Proofs.YtbbpipjadniafaaDoor
