/-
  What FuncsTexts' functions come to, of texts alone.
-/
import Derived.Test.YtclkinokmpcigaaGreatDoorFnCase
import Derived.Test.YtclkinokmpcigaaGreatDoorFnGlue
set_option linter.unusedVariables false
set_option linter.unusedSimpArgs false
namespace Go.Proofs.YtclkinokmpcigaaGreatDoor
open Go.RowKit

theorem case_case : ∀ b : UInt8, caseB 65 90 (caseB 97 122 b) = caseB 65 90 b := by
  have h : ∀ n : Fin 256, caseB 65 90 (caseB 97 122 (UInt8.ofNat n.val)) = caseB 65 90 (UInt8.ofNat n.val) := by decide +kernel
  intro b
  have := h ⟨b.toNat, b.toNat_lt⟩
  simpa using this
theorem lower_upper (l : List UInt8) : (l.map (caseB 97 122)).map (caseB 65 90) = l.map (caseB 65 90) := by
  rw [List.map_map]
  exact List.map_congr_left fun b _ => case_case b
theorem trimL_idem (l cs : List UInt8) : Lib.trimLeftS (Lib.trimLeftS l cs) cs = Lib.trimLeftS l cs := by
  unfold Lib.trimLeftS
  induction l with
  | nil => rfl
  | cons a l ih =>
    rw [List.dropWhile_cons]
    by_cases h : cs.contains a = true
    · rw [if_pos h]; exact ih
    · rw [if_neg h, List.dropWhile_cons, if_neg h]
/-- What ends in none of these keeps its end. -/
theorem trimR_drop (l cs : List UInt8) : Lib.trimRightS (Lib.trimLeftS (Lib.trimRightS l cs) cs) cs = Lib.trimLeftS (Lib.trimRightS l cs) cs := by
  have hr : Lib.trimRightS (Lib.trimRightS l cs) cs = Lib.trimRightS l cs := by
    have := trimL_idem l.reverse cs
    unfold Lib.trimRightS
    rw [List.reverse_reverse]
    unfold Lib.trimLeftS at this
    rw [this]
  generalize Lib.trimRightS l cs = m at hr ⊢
  unfold Lib.trimLeftS
  induction m with
  | nil => rfl
  | cons a m ih =>
    rw [List.dropWhile_cons]
    by_cases h : cs.contains a = true
    · rw [if_pos h]
      refine ih ?_
      unfold Lib.trimRightS at hr ⊢
      rw [List.reverse_cons, List.dropWhile_append] at hr
      by_cases he : (m.reverse.dropWhile (cs.contains ·)).isEmpty = true
      · rw [if_pos he] at hr
        have ha : a ∈ cs := by simpa using h
        simp [ha] at hr
      · rw [if_neg he, List.reverse_append] at hr
        simp at hr
        simpa using hr
    · rw [if_neg h]
      exact hr
theorem trim_trim (l cs : List UInt8) : Lib.trimS (Lib.trimS l cs) cs = Lib.trimS l cs := by
  have h := trimR_drop l cs
  unfold Lib.trimS
  rw [h, trimL_idem]
theorem trimS_le (l c : List UInt8) : (Lib.trimS l c).length ≤ l.length := by
  unfold Lib.trimS Lib.trimLeftS Lib.trimRightS
  have h1 := (List.dropWhile_suffix (l := l.reverse) (fun x => c.contains x)).length_le
  have h2 := (List.dropWhile_suffix (l := (l.reverse.dropWhile fun x => c.contains x).reverse) (fun x => c.contains x)).length_le
  simp only [List.length_reverse] at h1 h2
  omega
theorem quote_len (l : List UInt8) : (quoteL l).length ≤ 2 * l.length + 2 := by
  have := esc_len l
  simp only [quoteL, List.length_cons, List.length_append, List.length_nil]
  omega

/-- Two texts. -/
def txT (s : ByteArray) : T := .mk 3 false 0 s [] []
def txF (a b : ByteArray) (i : Nat) : ByteArray := if i = 0 then a else b
theorem two_said (a b : ByteArray) : ∀ i (h : i < [txT a, txT b].length), SaidOK [txT a, txT b][i] (txF a b i) := fun i hi => by
  rcases (by simp at hi; omega : i = 0 ∨ i = 1) with rfl | rfl
  · exact said_text a
  · exact said_text b
theorem glue_two (a b : ByteArray) : glueL [] (txF a b) 2 = a.data.toList ++ b.data.toList := by
  simp [glueL, txF]
theorem glued_two (a b : ByteArray) : (⟨(glueL [] (txF a b) 2).toArray⟩ : ByteArray) = a ++ b := by
  rw [glue_two]
  apply ByteArray.ext
  apply Array.toList_inj.1
  simp

end Go.Proofs.YtclkinokmpcigaaGreatDoor
