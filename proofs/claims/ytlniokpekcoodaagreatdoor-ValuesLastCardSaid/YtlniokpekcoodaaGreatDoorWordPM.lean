/-
  Paths that are written: words, their cut at each dot, and the way back.
-/
import Derived.Lib.Split
import Derived.Lib.Join
import Derived.Lib.MapLaws
import Derived.Shelf.GgClosure.StringsIndexFunc
set_option linter.unusedVariables false
set_option linter.unusedSimpArgs false
namespace Go.Proofs.YtlniokpekcoodaaGreatDoor

/-- May a byte stand in a word? -/
def inWord (c : UInt8) : Bool := (97 ≤ c && c ≤ 122) || (65 ≤ c && c ≤ 90) || (48 ≤ c && c ≤ 57) || c == 95 || c == 45
/-- May a text be a word? -/
def wordL (l : List UInt8) : Bool := l.all inWord && decide (0 < l.length) && decide (l.length ≤ 256)
/-- A text, cut at each dot. -/
def cutD : List UInt8 → List (List UInt8)
  | [] => [[]]
  | c :: r => if c = 46 then [] :: cutD r else match cutD r with
    | [] => [[c]]
    | h :: t => (c :: h) :: t
theorem cutD_ne : ∀ l, cutD l ≠ []
  | [] => by simp [cutD]
  | c :: r => by
    unfold cutD
    split
    · simp
    · split <;> simp
theorem cutD_len : ∀ l, (cutD l).length = l.count 46 + 1
  | [] => rfl
  | c :: r => by
    have h := cutD_len r
    unfold cutD
    by_cases hc : c = 46
    · subst hc
      rw [if_pos rfl, List.length_cons, h, List.count_cons_self]
    · rw [if_neg hc, List.count_cons_of_ne (by simpa using hc)]
      cases e : cutD r with
      | nil => exact absurd e (cutD_ne r)
      | cons a b =>
        rw [e] at h
        simpa using h
/-- What one byte more does. -/
def moreD (c : UInt8) (L : List (List UInt8)) : List (List UInt8) := if c = 46 then L ++ [[]] else L.dropLast ++ [L.getLastD [] ++ [c]]
theorem cutD_snoc (c : UInt8) : ∀ l, cutD (l ++ [c]) = moreD c (cutD l)
  | [] => by
    unfold moreD
    by_cases hc : c = 46
    · subst hc; rfl
    · simp [cutD, hc]
  | d :: r => by
    have h := cutD_snoc c r
    have hne := cutD_ne r
    rw [List.cons_append]
    unfold cutD
    rw [h]
    cases e : cutD r with
    | nil => exact absurd e hne
    | cons a b =>
      by_cases hd : d = 46
      · subst hd
        rw [if_pos rfl, if_pos rfl]
        unfold moreD
        split
        · simp
        · simp [List.dropLast, List.getLastD]
      · rw [if_neg hd, if_neg hd]
        unfold moreD
        by_cases hc : c = 46
        · simp [hc]
        · cases b with
          | nil => simp [hc]
          | cons b1 b2 => simp [hc, List.dropLast, List.getLastD]
/-- Joined by dots. -/
def joinD (L : List (List UInt8)) : List UInt8 := Lib.join L [46]
theorem joinD_cons (a : List UInt8) (b : List UInt8) (r : List (List UInt8)) : joinD (a :: b :: r) = a ++ 46 :: joinD (b :: r) := by
  simp [joinD, Lib.join, List.intercalate, List.intersperse]
theorem joinD_one (a : List UInt8) : joinD [a] = a := Lib.join_one a [46]
theorem joinD_cut : ∀ l, joinD (cutD l) = l
  | [] => rfl
  | c :: r => by
    have h := joinD_cut r
    have hne := cutD_ne r
    unfold cutD
    cases e : cutD r with
    | nil => exact absurd e hne
    | cons a b =>
      rw [e] at h
      by_cases hc : c = 46
      · subst hc
        rw [if_pos rfl, joinD_cons, h]
        rfl
      · rw [if_neg hc]
        show joinD ((c :: a) :: b) = _
        cases b with
        | nil =>
          rw [joinD_one] at h ⊢
          rw [h]
        | cons b1 b2 =>
          rw [joinD_cons] at h ⊢
          rw [← h]
          rfl
theorem cutD_pre : ∀ (a l : List UInt8), (46 : UInt8) ∉ a → cutD (a ++ l) = match cutD l with | [] => [a] | h :: t => (a ++ h) :: t
  | [], l, _ => by
    cases e : cutD l with
    | nil => exact absurd e (cutD_ne l)
    | cons a b => simpa using e
  | c :: r, l, h => by
    have hc : ¬ c = 46 := fun e => h (by rw [e]; exact List.mem_cons_self)
    have ih := cutD_pre r l (fun e => h (List.mem_cons_of_mem _ e))
    cases e : cutD l with
    | nil => exact absurd e (cutD_ne l)
    | cons x y =>
      rw [e] at ih
      rw [List.cons_append]
      conv => lhs; unfold cutD
      rw [if_neg hc, ih]
      rfl
theorem cutD_plain (a : List UInt8) (h : (46 : UInt8) ∉ a) : cutD a = [a] := by
  have e := cutD_pre a [] h
  rw [List.append_nil] at e
  simpa [cutD] using e
theorem cutD_join : ∀ (L : List (List UInt8)), L ≠ [] → (∀ a ∈ L, (46 : UInt8) ∉ a) → cutD (joinD L) = L
  | [], h, _ => absurd rfl h
  | [a], _, h => by rw [joinD_one]; exact cutD_plain a (h a (by simp))
  | a :: b :: r, _, h => by
    have ih := cutD_join (b :: r) (by simp) (fun x hx => h x (List.mem_cons_of_mem _ hx))
    rw [joinD_cons, cutD_pre a _ (h a (by simp))]
    have e : cutD (46 :: joinD (b :: r)) = [] :: cutD (joinD (b :: r)) := by conv => lhs; unfold cutD; rw [if_pos rfl]
    rw [e, ih]
    simp
theorem word_dot {l : List UInt8} (h : wordL l = true) : (46 : UInt8) ∉ l := by
  intro hm
  unfold wordL at h
  simp only [Bool.and_eq_true, List.all_eq_true, decide_eq_true_eq] at h
  have := h.1.1 46 hm
  exact absurd this (by decide)
theorem word_len {l : List UInt8} (h : wordL l = true) : 0 < l.length ∧ l.length ≤ 256 := by
  unfold wordL at h
  simp only [Bool.and_eq_true, decide_eq_true_eq] at h
  exact ⟨h.1.2, h.2⟩
theorem joinD_len : ∀ (L : List (List UInt8)), (∀ a ∈ L, a.length ≤ 256) → (joinD L).length ≤ 257 * L.length
  | [], _ => by simp [joinD, Lib.join_nil]
  | [a], h => by rw [joinD_one]; have := h a (by simp); simp; omega
  | a :: b :: r, h => by
    have ih := joinD_len (b :: r) (fun x hx => h x (List.mem_cons_of_mem _ hx))
    have := h a (by simp)
    rw [joinD_cons, List.length_append, List.length_cons]
    simp only [List.length_cons] at ih ⊢
    omega
/-- The library's search for one byte. -/
theorem index_dot : ∀ l : List UInt8, Lib.index l [46] = match cutD l with | [] => -1 | [_] => -1 | a :: _ :: _ => (a.length : Int)
  | [] => rfl
  | c :: r => by
    have h := index_dot r
    have hne := cutD_ne r
    unfold Lib.index
    by_cases hc : c = 46
    · subst hc
      have e : cutD (46 :: r) = [] :: cutD r := by conv => lhs; unfold cutD; rw [if_pos rfl]
      rw [e, if_pos (by rfl)]
      cases e2 : cutD r with
      | nil => exact absurd e2 hne
      | cons a b => rfl
    · have hp : ¬ ([46] : List UInt8).isPrefixOf (c :: r) = true := by
        simp [List.isPrefixOf]
        exact fun e => hc e.symm
      rw [if_neg hp, h]
      have e : cutD (c :: r) = match cutD r with | [] => [[c]] | h :: t => (c :: h) :: t := by conv => lhs; unfold cutD; rw [if_neg hc]
      rw [e]
      cases e2 : cutD r with
      | nil => exact absurd e2 hne
      | cons a b =>
        cases b with
        | nil => rfl
        | cons b1 b2 =>
          show (if ((a.length : Int) == -1) = true then _ else _) = _
          rw [if_neg (by simp)]
          show (a.length : Int) + 1 = ((c :: a).length : Int)
          simp
theorem drop_dot : ∀ (l a b : List UInt8) (r : List (List UInt8)), cutD l = a :: b :: r → l.take a.length = a ∧ cutD (l.drop (a.length + 1)) = b :: r
  | [], a, b, r, h => by simp [cutD] at h
  | c :: l, a, b, r, h => by
    have hne := cutD_ne l
    unfold cutD at h
    by_cases hc : c = 46
    · subst hc
      rw [if_pos rfl] at h
      injection h with h1 h2
      subst h1
      exact ⟨rfl, h2⟩
    · rw [if_neg hc] at h
      cases e : cutD l with
      | nil => exact absurd e hne
      | cons x y =>
        rw [e] at h
        injection h with h1 h2
        subst h1
        obtain ⟨h3, h4⟩ := drop_dot l x b r (by rw [e, h2])
        exact ⟨by simp [h3], by simpa using h4⟩
theorem split_dot : ∀ (k : Nat) (l : List UInt8), (cutD l).length ≤ k + 1 → Lib.splitK [46] 0 k l = cutD l
  | 0, l, h => by
    have hne := cutD_ne l
    have hj := joinD_cut l
    cases e : cutD l with
    | nil => exact absurd e hne
    | cons a b =>
      rw [e] at h hj
      cases b with
      | nil => rw [joinD_one] at hj; rw [hj]; rfl
      | cons b1 b2 => simp at h
  | k + 1, l, h => by
    have hne := cutD_ne l
    have hj := joinD_cut l
    have hi := index_dot l
    unfold Lib.splitK
    cases e : cutD l with
    | nil => exact absurd e hne
    | cons a b =>
      rw [e] at h hj hi
      cases b with
      | nil =>
        rw [joinD_one] at hj
        rw [if_pos (by rw [hi]; rfl), hj]
      | cons b1 b2 =>
        obtain ⟨h3, h4⟩ := drop_dot l a b1 b2 e
        have hi2 : Lib.index l [46] = (a.length : Int) := hi
        rw [hi2, if_neg (by simp)]
        show l.take (a.length + 0) :: Lib.splitK [46] 0 k (l.drop (a.length + 1)) = _
        rw [Nat.add_zero, h3, split_dot k _ (by rw [h4]; simp only [List.length_cons] at h ⊢; omega), h4]
theorem count_dot (k : Nat) : ∀ l : List UInt8, l.length ≤ k → Lib.count l [46] = l.count 46 := by
  induction k with
  | zero => intro l h; obtain rfl := List.length_eq_zero_iff.1 (Nat.le_zero.1 h); rfl
  | succ k ih =>
    intro l h
    have hi := index_dot l
    have hl := cutD_len l
    have hne := cutD_ne l
    cases e : cutD l with
    | nil => exact absurd e hne
    | cons a b =>
      rw [e] at hi hl
      cases b with
      | nil =>
        rw [Lib.count_miss hi]
        simp at hl
        omega
      | cons b1 b2 =>
        obtain ⟨h3, h4⟩ := drop_dot l a b1 b2 e
        have hi2 : Lib.index l [46] = (a.length : Int) := hi
        have hal : a.length < l.length := by
          have := congrArg List.length (joinD_cut l)
          rw [e, joinD_cons] at this
          simp at this
          omega
        rw [Lib.count_hit (by simp) hi2, ih _ (by simp; omega)]
        have hl2 := cutD_len (l.drop (a.length + 1))
        rw [h4] at hl2
        simp only [List.length_cons, List.length_nil, Nat.zero_add] at hl hl2 ⊢
        omega
end Go.Proofs.YtlniokpekcoodaaGreatDoor

/-
  Runes of a text that is looked through for what no word has.
-/
set_option linter.unusedVariables false
set_option linter.unusedSimpArgs false
namespace Go.Proofs.YtlniokpekcoodaaGreatDoor
open Go.Lib

/-- A rune that stands in no word. -/
def strangeR (r : Nat) : Bool := !((97 ≤ r && r ≤ 122) || (65 ≤ r && r ≤ 90)) && !(48 ≤ r && r ≤ 57) && r != 95 && r != 45
theorem strange_byte (c : UInt8) : strangeR c.toNat = !inWord c := by
  have h : ∀ c : Fin 256, strangeR (UInt8.ofNat c.val).toNat = !inWord (UInt8.ofNat c.val) := by decide +kernel
  have := h ⟨c.toNat, c.toNat_lt⟩
  simpa using this
theorem strange_high (r : Nat) (h : 128 ≤ r) : strangeR r = true := by
  unfold strangeR
  simp only [Bool.and_eq_true, Bool.not_eq_true', Bool.or_eq_false_iff, Bool.and_eq_false_iff, decide_eq_false_iff_not, bne_iff_ne, ne_eq]
  omega
theorem decode_low (s : ByteArray) (i : Nat) (h : (s.get! i).toNat < 128) : Utf8.decode s i = ((s.get! i).toNat, 1) := by
  rw [decode_at]
  unfold decodeN
  rw [if_pos h]
theorem decode_high (s : ByteArray) (i : Nat) (h : 128 ≤ (s.get! i).toNat) : 128 ≤ (Utf8.decode s i).1 := by
  rw [decode_at]
  rcases decodeN_shape (s.size - i) (s.get! i).toNat (s.get! (i + 1)).toNat (s.get! (i + 2)).toNat (s.get! (i + 3)).toNat with ⟨h1, e⟩ | ⟨_, _, _, h1, e⟩ | ⟨_, _, _, _, h1, _, e⟩ | ⟨_, _, _, _, _, h1, _, e⟩ | e
  · omega
  · rw [e]; exact h1
  · rw [e]; show 128 ≤ _; omega
  · rw [e]; show 128 ≤ _; omega
  · rw [e]; show 128 ≤ 65533; omega
theorem strange_decode (s : ByteArray) (i : Nat) : strangeR (Utf8.decode s i).1 = !inWord (s.get! i) := by
  by_cases h : (s.get! i).toNat < 128
  · rw [decode_low s i h]
    exact strange_byte _
  · rw [strange_high _ (decode_high s i (by omega)), ← strange_byte, strange_high _ (by omega)]
theorem word_width (s : ByteArray) (i : Nat) (h : inWord (s.get! i) = true) : (Utf8.decode s i).2 = 1 := by
  by_cases h2 : (s.get! i).toNat < 128
  · rw [decode_low s i h2]
  · have := strange_byte (s.get! i)
    rw [h, strange_high _ (by omega)] at this
    exact absurd this (by decide)
end Go.Proofs.YtlniokpekcoodaaGreatDoor

/-
  What strings.ContainsFunc finds in a text by the runes that no word has.
-/
set_option linter.unusedVariables false
set_option linter.unusedSimpArgs false
namespace Go.Proofs.YtlniokpekcoodaaGreatDoor
open Go.Lib
theorem drop_get (s : ByteArray) (pos : Nat) (h : pos < s.size) : s.data.toList.drop pos = s.get! pos :: s.data.toList.drop (pos + 1) := by
  have h2 : pos < s.data.toList.length := by simpa using h
  rw [List.drop_eq_getElem_cons h2]
  congr 1
  show _ = s.data[pos]!
  rw [getElem!_pos s.data pos (by simpa using h2)]
  simp
theorem idx_from (s : ByteArray) : ∀ (f pos : Nat), s.size ≤ pos + f → decide (0 ≤ idxFuncFrom strangeR true s f pos) = !((s.data.toList.drop pos).all inWord)
  | 0, pos, h => by
    rw [List.drop_eq_nil_of_le (by simpa using h)]
    rfl
  | f + 1, pos, h => by
    unfold idxFuncFrom
    by_cases hp : pos < s.size
    · rw [if_pos hp, drop_get s pos hp, List.all_cons, strange_decode]
      cases hw : inWord (s.get! pos) with
      | true =>
        rw [if_neg (by decide), word_width s pos hw, idx_from s f (pos + 1) (by omega)]
        rfl
      | false =>
        rw [if_pos (show (!false) = true from rfl)]
        simp
    · rw [if_neg hp, List.drop_eq_nil_of_le (by simp; omega)]
      rfl
theorem idx_word (s : ByteArray) : decide (0 ≤ idxFunc strangeR true s) = !(s.data.toList.all inWord) := idx_from s s.size 0 (by omega)
end Go.Proofs.YtlniokpekcoodaaGreatDoor
