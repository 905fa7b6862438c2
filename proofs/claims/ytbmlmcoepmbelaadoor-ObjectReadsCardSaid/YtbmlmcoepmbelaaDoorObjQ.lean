/-
  An ID's text, taken apart: pure.
-/
import Derived.Test.YtbmlmcoepmbelaaDoorObjP
import Derived.Lib.Split
set_option linter.unusedVariables false
set_option linter.unusedSimpArgs false
namespace Go.Proofs.YtbmlmcoepmbelaaDoor
open Go.RowKit

theorem idx_hit : ∀ (a r : List UInt8), (47 : UInt8) ∉ a → Lib.index (a ++ 47 :: r) [47] = (a.length : Int)
  | [], r, _ => by
    show Lib.index (47 :: r) [47] = _
    unfold Lib.index
    rw [if_pos (by rfl)]
    rfl
  | c :: a, r, h => by
    have ih := idx_hit a r (fun q => h (List.mem_cons_of_mem _ q))
    have hc : ¬ c = 47 := fun e => h (by rw [e]; exact List.mem_cons_self)
    show Lib.index (c :: (a ++ 47 :: r)) [47] = _
    unfold Lib.index
    have hp : ¬ ([47] : List UInt8).isPrefixOf (c :: (a ++ 47 :: r)) = true := by
      simp [List.isPrefixOf]
      exact fun e => hc e.symm
    rw [if_neg hp, ih]
    have : ¬ ((a.length : Int) == -1) = true := by simp
    simp
theorem idx_or : ∀ l : List UInt8, (Lib.index l [47] = -1 ∧ (47 : UInt8) ∉ l) ∨ ∃ a r, l = a ++ 47 :: r ∧ (47 : UInt8) ∉ a
  | [] => .inl ⟨rfl, by simp⟩
  | c :: l => by
    by_cases hc : c = 47
    · exact .inr ⟨[], l, by rw [hc]; rfl, by simp⟩
    · rcases idx_or l with ⟨h1, h2⟩ | ⟨a, r, h1, h2⟩
      · refine .inl ⟨?_, ?_⟩
        · unfold Lib.index
          have hp : ¬ ([47] : List UInt8).isPrefixOf (c :: l) = true := by
            simp [List.isPrefixOf]
            exact fun e => hc e.symm
          rw [if_neg hp, h1]
          rfl
        · intro q
          rcases List.mem_cons.1 q with e | e
          · exact hc e.symm
          · exact h2 e
      · refine .inr ⟨c :: a, r, by rw [h1]; rfl, ?_⟩
        intro q
        rcases List.mem_cons.1 q with e | e
        · exact hc e.symm
        · exact h2 e
theorem splitK_miss (K : Nat) {l : List UInt8} (h : Lib.index l [47] = -1) : Lib.splitK [47] 0 K l = [l] := by
  cases K with
  | zero => rfl
  | succ K => unfold Lib.splitK; rw [if_pos (by rw [h]; rfl)]
theorem splitK_step (K : Nat) (a r : List UInt8) (h : (47 : UInt8) ∉ a) : Lib.splitK [47] 0 (K + 1) (a ++ 47 :: r) = a :: Lib.splitK [47] 0 K r := by
  have hi := idx_hit a r h
  have e : (a ++ 47 :: r).drop (a.length + 1) = r := by rw [List.drop_append]; simp
  conv => lhs; unfold Lib.splitK
  rw [hi, if_neg (by simp)]
  show (a ++ 47 :: r).take (a.length + 0) :: Lib.splitK [47] 0 K ((a ++ 47 :: r).drop (a.length + 1)) = _
  rw [Nat.add_zero, List.take_left, e]
/-- Joined by slashes. -/
def joinS : List (List UInt8) → List UInt8
  | [] => []
  | [x] => x
  | x :: y :: r => x ++ 47 :: joinS (y :: r)
theorem splitK_ne (K : Nat) (l : List UInt8) : Lib.splitK [47] 0 K l ≠ [] := by
  cases K with
  | zero => simp [Lib.splitK]
  | succ K => unfold Lib.splitK; split <;> simp
theorem joinS_split : ∀ (K : Nat) (l : List UInt8), joinS (Lib.splitK [47] 0 K l) = l
  | 0, l => rfl
  | K + 1, l => by
    rcases idx_or l with ⟨h1, _⟩ | ⟨a, r, rfl, h2⟩
    · rw [splitK_miss _ h1]; rfl
    · rw [splitK_step _ _ _ h2]
      have ih := joinS_split K r
      have hn := splitK_ne K r
      cases e : Lib.splitK [47] 0 K r with
      | nil => exact absurd e hn
      | cons y q =>
        rw [e] at ih
        show a ++ 47 :: joinS (y :: q) = _
        rw [ih]

def splitO (s : ByteArray) : List ByteArray := Lib.splitB ⟨#[47]⟩ 0 (min 3 (s.size + 1) - 1) s
theorem splitO_data (s : ByteArray) : (splitO s).map (·.data.toList) = Lib.splitK [47] 0 (min 3 (s.size + 1) - 1) s.data.toList := Lib.splitB_data _ _ _ _
theorem splitO_len (s : ByteArray) : (splitO s).length ≤ 3 := by
  have := Lib.splitB_length_le ⟨#[47]⟩ 0 (min 3 (s.size + 1) - 1) s
  unfold splitO
  omega
theorem splitO_len2 (s : ByteArray) : (splitO s).length ≤ min 3 (s.size + 1) := by
  have := Lib.splitB_length_le ⟨#[47]⟩ 0 (min 3 (s.size + 1) - 1) s
  unfold splitO
  omega
theorem map_three {l : List ByteArray} {a b c : List UInt8} (h : l.map (·.data.toList) = [a, b, c]) : ∃ k p n : ByteArray, l = [k, p, n] ∧ k.data.toList = a ∧ p.data.toList = b ∧ n.data.toList = c := by
  match l, h with
  | [k, p, n], h =>
    simp only [List.map_cons, List.map_nil, List.cons.injEq, and_true] at h
    exact ⟨k, p, n, rfl, h.1, h.2.1, h.2.2⟩
theorem split_key {k p n : ByteArray} (h : rightO k p n = true) : splitO (keyO k p n) = [k, p, n] := by
  unfold rightO at h
  simp only [Bool.and_eq_true] at h
  have hd := splitO_data (keyO k p n)
  have hz : (keyO k p n).size = k.size + p.size + n.size + 2 := by
    rw [Lib.size_eq, key_list, Lib.size_eq, Lib.size_eq, Lib.size_eq]
    simp only [List.length_append, List.length_cons]
    omega
  rw [show min 3 ((keyO k p n).size + 1) - 1 = 1 + 1 by omega, key_list, splitK_step _ _ _ (word_noslash h.1), splitK_step _ _ _ (word_noslash h.2.1)] at hd
  obtain ⟨k', p', n', e, e1, e2, e3⟩ := map_three hd
  rw [e, data_inj e1, data_inj e2, data_inj e3]
theorem split_join {s k p n : ByteArray} (h : splitO s = [k, p, n]) : keyO k p n = s := by
  have hd := splitO_data s
  have hj := joinS_split (min 3 (s.size + 1) - 1) s.data.toList
  rw [← hd, h] at hj
  apply data_inj
  rw [key_list]
  exact hj

/-- What a text tells an object by: kind, space, name; what is wrong. -/
def parseL (l : List ByteArray) : ByteArray × ByteArray × ByteArray × Int := match l with
  | [k, p, n] => if rightO k p n = true then (k, p, n, 0) else (⟨#[]⟩, ⟨#[]⟩, ⟨#[]⟩, 26)
  | _ => (⟨#[]⟩, ⟨#[]⟩, ⟨#[]⟩, 26)
theorem parse_key {k p n : ByteArray} (h : rightO k p n = true) : parseL (splitO (keyO k p n)) = (k, p, n, 0) := by
  rw [split_key h, parseL, if_pos h]
theorem parse_or (s : ByteArray) : (∃ k p n, parseL (splitO s) = (k, p, n, 0) ∧ rightO k p n = true ∧ keyO k p n = s) ∨ parseL (splitO s) = (⟨#[]⟩, ⟨#[]⟩, ⟨#[]⟩, 26) := by
  cases e : splitO s with
  | nil => exact .inr rfl
  | cons k r =>
    cases r with
    | nil => exact .inr rfl
    | cons p r =>
      cases r with
      | nil => exact .inr rfl
      | cons n r =>
        cases r with
        | nil =>
          by_cases h : rightO k p n = true
          · exact .inl ⟨k, p, n, by rw [parseL, if_pos h], h, split_join e⟩
          · exact .inr (by rw [parseL, if_neg h])
        | cons x r => exact .inr rfl

end Go.Proofs.YtbmlmcoepmbelaaDoor
