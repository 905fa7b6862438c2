/-
  Runes of a text that is looked through for what no word has.
-/
import Derived.Lib.MapLaws
import Derived.Test.YtbbpipjadniafaaDoorWordP
set_option linter.unusedVariables false
set_option linter.unusedSimpArgs false
namespace Go.Proofs.YtbbpipjadniafaaDoor
open Go.Lib

/-- A rune that stands in no word. -/
def strangeR (r : Nat) : Bool := !((97 ≤ r && r ≤ 122) || (65 ≤ r && r ≤ 90)) && !(48 ≤ r && r ≤ 57) && r != 95 && r != 45
theorem strange_byte (c : UInt8) : strangeR c.toNat = !inWord c := by
  have h : ∀ c : Fin 256, strangeR (UInt8.ofNat c.val).toNat = !inWord (UInt8.ofNat c.val) := by decide +kernel
  have := h ⟨c.toNat, c.toNat_lt⟩
  simpa using this
theorem strange_high (r : Nat) (h : 128 ≤ r) : strangeR r = true := by
  unfold strangeR
  simp only [Bool.and_eq_true, Bool.not_eq_true', Bool.or_eq_false_iff, Bool.and_eq_false_iff, decide_eq_false_iff_not, bne_iff_ne, ne_eq]
  omega
theorem decode_low (s : ByteArray) (i : Nat) (h : (s.get! i).toNat < 128) : Utf8.decode s i = ((s.get! i).toNat, 1) := by
  rw [decode_at]
  unfold decodeN
  rw [if_pos h]
theorem decode_high (s : ByteArray) (i : Nat) (h : 128 ≤ (s.get! i).toNat) : 128 ≤ (Utf8.decode s i).1 := by
  rw [decode_at]
  rcases decodeN_shape (s.size - i) (s.get! i).toNat (s.get! (i + 1)).toNat (s.get! (i + 2)).toNat (s.get! (i + 3)).toNat with ⟨h1, e⟩ | ⟨_, _, _, h1, e⟩ | ⟨_, _, _, _, h1, _, e⟩ | ⟨_, _, _, _, _, h1, _, e⟩ | e
  · omega
  · rw [e]; exact h1
  · rw [e]; show 128 ≤ _; omega
  · rw [e]; show 128 ≤ _; omega
  · rw [e]; show 128 ≤ 65533; omega
theorem strange_decode (s : ByteArray) (i : Nat) : strangeR (Utf8.decode s i).1 = !inWord (s.get! i) := by
  by_cases h : (s.get! i).toNat < 128
  · rw [decode_low s i h]
    exact strange_byte _
  · rw [strange_high _ (decode_high s i (by omega)), ← strange_byte, strange_high _ (by omega)]
theorem word_width (s : ByteArray) (i : Nat) (h : inWord (s.get! i) = true) : (Utf8.decode s i).2 = 1 := by
  by_cases h2 : (s.get! i).toNat < 128
  · rw [decode_low s i h2]
  · have := strange_byte (s.get! i)
    rw [h, strange_high _ (by omega)] at this
    exact absurd this (by decide)
end Go.Proofs.YtbbpipjadniafaaDoor
