/-
  Texts' bytes, and the reference's Quote: a text in double quotes.
-/
import Derived.Test.YtbmlmcoepmbelaaDoorVals
import Derived.Lib.SlTrimSet
import Derived.Lib.IndexLaws
import Derived.Lib.CutLaws
import Derived.Lib.Hide
set_option linter.unusedVariables false
set_option linter.unusedSimpArgs false
namespace Go.Proofs.YtbmlmcoepmbelaaDoor
open Go.RowKit

def escB (b : UInt8) : List UInt8 := if b = 10 then [92, 110] else if b = 9 then [92, 116] else if b = 34 ∨ b = 92 then [92, b] else [b]
def quoteL (l : List UInt8) : List UInt8 := 34 :: (l.flatMap escB ++ [34])

theorem app_mk (a b : List UInt8) : (⟨a.toArray⟩ : ByteArray) ++ ⟨b.toArray⟩ = ⟨(a ++ b).toArray⟩ := by
  apply ByteArray.ext
  rw [ByteArray.data_append]
  simp
theorem ext_drop (s : ByteArray) (j : Nat) : (s.extract j s.size).data.toList = s.data.toList.drop j := by
  rw [Lib.extract_eq]
  show List.take _ _ = _
  exact List.take_of_length_le (by rw [List.length_drop, ← Lib.size_eq]; exact Nat.le_refl _)
theorem drop_step (s : ByteArray) (j : Nat) (h : j < s.size) : s.data.toList.drop j = s[j] :: s.data.toList.drop (j + 1) := by
  have := List.drop_eq_getElem_cons (l := s.data.toList) (i := j) (by simpa using h)
  rw [this]
  simp [ByteArray.getElem_eq_getElem_data]
theorem extract_one (s : ByteArray) (k : Nat) (h : k < s.size) : s.extract k (k + 1) = ⟨[s[k]].toArray⟩ := by
  rw [← Lib.mk_data (s.extract k (k + 1)), Lib.extract_eq]
  congr 2
  rw [show k + 1 - k = 1 by omega, List.drop_eq_getElem_cons (by simpa using h)]
  simp [ByteArray.getElem_eq_getElem_data]
theorem take_one (s : ByteArray) (k : Nat) (h : k < s.size) : s.data.toList.take (k + 1) = s.data.toList.take k ++ [s[k]] := by
  rw [List.take_succ_eq_append_getElem (by simpa using h)]; rfl
theorem escB_len (b : UInt8) : (escB b).length ≤ 2 := by
  unfold escB
  split <;> (try split) <;> (try split) <;> simp
theorem esc_len (l : List UInt8) : (l.flatMap escB).length ≤ 2 * l.length := by
  induction l with
  | nil => simp
  | cons b l ih =>
    rw [List.flatMap_cons, List.length_append, List.length_cons]
    have := escB_len b
    omega

theorem byte_four (c : Nat) : (((c : Int) == 10) = true ∧ c = 10) ∨ (((c : Int) == 10) = false ∧ ((c : Int) == 9) = true ∧ c = 9) ∨ (((c : Int) == 10) = false ∧ ((c : Int) == 9) = false ∧ ((c : Int) == 34) = true ∧ c = 34) ∨ (((c : Int) == 10) = false ∧ ((c : Int) == 9) = false ∧ ((c : Int) == 34) = false ∧ ((c : Int) == 92) = true ∧ c = 92) ∨ (((c : Int) == 10) = false ∧ ((c : Int) == 9) = false ∧ ((c : Int) == 34) = false ∧ ((c : Int) == 92) = false ∧ c ≠ 10 ∧ c ≠ 9 ∧ c ≠ 34 ∧ c ≠ 92) := by
  simp only [beq_iff_eq, beq_eq_false_iff_ne, ne_eq]
  omega

/-- What Quote has of the first k bytes. -/
def qot (s : ByteArray) (k : Nat) : ByteArray := ⟨(34 :: (s.data.toList.take k).flatMap escB).toArray⟩
theorem qot_size (s : ByteArray) (k : Nat) (hk : k ≤ s.size) : (qot s k).size ≤ 1 + 2 * k := by
  rw [qot, Lib.size_eq]
  have h1 := esc_len (s.data.toList.take k)
  have h2 := List.length_take_le k s.data.toList
  simp only [List.length_cons]
  omega
theorem qot_step (s : ByteArray) (k : Nat) (h : k < s.size) : qot s (k + 1) = qot s k ++ ⟨(escB s[k]).toArray⟩ := by
  rw [qot, qot, app_mk, take_one s k h, List.flatMap_append]
  simp
theorem byteIs {b c : UInt8} (h : b.toNat = c.toNat) : b = c := UInt8.toNat_inj.1 h
theorem esc_ten {b : UInt8} (h : b.toNat = 10) : escB b = [92, 110] := by
  have e : b = 10 := byteIs h
  subst e; rfl
theorem esc_nine {b : UInt8} (h : b.toNat = 9) : escB b = [92, 116] := by
  have e : b = 9 := byteIs h
  subst e; rfl
theorem esc_bs {b : UInt8} (h : b.toNat = 34 ∨ b.toNat = 92) : escB b = [92, b] := by
  rcases h with h | h
  · have e : b = 34 := byteIs h
    subst e; rfl
  · have e : b = 92 := byteIs h
    subst e; rfl
theorem esc_self {b : UInt8} (h1 : b.toNat ≠ 10) (h2 : b.toNat ≠ 9) (h3 : b.toNat ≠ 34) (h4 : b.toNat ≠ 92) : escB b = [b] := by
  rw [escB, if_neg (fun e => h1 (by rw [e]; rfl)), if_neg (fun e => h2 (by rw [e]; rfl)), if_neg (fun e => e.elim (fun e => h3 (by rw [e]; rfl)) (fun e => h4 (by rw [e]; rfl)))]

end Go.Proofs.YtbmlmcoepmbelaaDoor
