/-
  Package scalar's Print and Text of a whole number.
-/
import Derived.Test.YtlniokpekcoodaaGreatDoorCPrintM
import Derived.Lib.LaidTab
import Derived.Test.YtlniokpekcoodaaGreatDoorDouble
import Derived.Lib.IndexBytes
import Derived.Lib.IndexMore
set_option linter.unusedVariables false
set_option linter.unusedSimpArgs false
namespace Go.Proofs.YtlniokpekcoodaaGreatDoor
open Go.RowKit

/-- The table of powers of ten, as the library lays it. -/
def Pow10 (w : World) : Prop := Lib.TabIs Tryz.prog w "internal/strconv.uint64pow10" .u64 Lib.pow10Tab

theorem Tryz.gPow : Tryz.prog.globalNamed "internal/strconv.uint64pow10" = some 5 := by kernel_rfl
theorem Pow10.below {w w' : World} (h : Pow10 w) (hb : Below w.heap.size w w') : Pow10 w' := by
  have hg := Tryz.gPow
  unfold Pow10 Lib.TabIs World.var? at h ⊢
  rw [hg] at h ⊢
  simp only [Option.bind_some] at h ⊢
  have hlt : 5 < w.heap.size := by
    rcases Nat.lt_or_ge 5 w.heap.size with h' | h'
    · exact h'
    · rw [Array.getElem?_eq_none h'] at h; cases h
  rw [hb.block 5 hlt]
  exact h

theorem below_fmt (w : World) (k : Nat) (os : Array Obj) : Below w.heap.size w (Sort.grow (w.drewN k) os) :=
  ⟨rfl, rfl, rfl, by simp [Sort.grow], fun i hi => by
    show ((w.drewN k).heap ++ os)[i]? = _
    rw [Array.getElem?_append_left (by show i < w.heap.size; omega)]
    rfl⟩

/-- A whole number's word. -/
theorem itoa_pos {n : Int} (h : 0 ≤ n) : Lib.itoa n = Lib.decDigits n.toNat := by rw [Lib.itoa, if_neg (by omega)]
theorem itoa_neg {n : Int} (h : n < 0) : Lib.itoa n = 45 :: Lib.decDigits n.natAbs := by rw [Lib.itoa, if_pos h]

end Go.Proofs.YtlniokpekcoodaaGreatDoor

/-
  Package scalar's Unquote of a text in double quotes, and of one in none; Print of nothing and of a truth.
-/
set_option linter.unusedVariables false
set_option linter.unusedSimpArgs false
namespace Go.Proofs.YtlniokpekcoodaaGreatDoor
open Go.RowKit

theorem dbl_esc : ∀ (l rest acc : List UInt8), dblL acc (l.flatMap escB ++ 34 :: rest) = some (acc ++ l, rest)
  | [], rest, acc => by
    show dblL acc (34 :: rest) = _
    rw [dbl_cons, if_pos (by decide), List.append_nil]
  | b :: l, rest, acc => by
    have ih := fun a => dbl_esc l rest a
    rw [List.flatMap_cons, List.append_assoc]
    have two : ∀ d x : UInt8, meantB d = some x → dblL acc (92 :: d :: (l.flatMap escB ++ 34 :: rest)) = some (acc ++ x :: l, rest) := fun d x h => by
      rw [dbl_cons, if_neg (by decide), if_neg (by decide), if_pos (by decide)]
      simp only [h]
      rw [ih]
      simp
    by_cases h1 : b = 10
    · subst h1
      exact two 110 10 (by decide)
    · by_cases h2 : b = 9
      · subst h2
        exact two 116 9 (by decide)
      · by_cases h3 : b = 34 ∨ b = 92
        · have e : escB b = [92, b] := by rw [escB, if_neg h1, if_neg h2, if_pos h3]
          rw [e]
          refine two b b ?_
          rcases h3 with rfl | rfl <;> decide
        · have e : escB b = [b] := by rw [escB, if_neg h1, if_neg h2, if_neg h3]
          rw [e]
          show dblL acc (b :: (l.flatMap escB ++ 34 :: rest)) = _
          have n1 : b.toNat ≠ 34 := fun h => h3 (.inl (byteIs h))
          have n2 : b.toNat ≠ 92 := fun h => h3 (.inr (byteIs h))
          have n3 : b.toNat ≠ 10 := fun h => h1 (byteIs h)
          have n4 : b.toNat ≠ 9 := fun h => h2 (byteIs h)
          rw [dbl_cons, if_neg n1, if_neg (by omega), if_neg n2, ih]
          simp
theorem dbl_quote (l rest : List UInt8) : dblL [] ((quoteL l ++ rest).drop 1) = some (l, rest) := by
  have : (quoteL l ++ rest).drop 1 = l.flatMap escB ++ 34 :: rest := by simp [quoteL]
  rw [this, dbl_esc]
  rfl

set_option maxHeartbeats 1000000 in
theorem cUnquote_quoted (s : ByteArray) (l rest : List UInt8) (hs : s.size ≤ 1000000000000) (hl : s.data.toList = quoteL l ++ rest) (w : World) :
    Calls Tryz.prog 41 #[.string s] w fun e w' => e = .returned (.tuple #[.string ⟨l.toArray⟩, .string ⟨rest.toArray⟩, .int .i64 0]) ∧ Below w.heap.size w w' := by
  have h1 : Hid (Lib.hasPrefix s.data.toList [34] = true) := by show _ = _; rw [hl]; simp [Lib.hasPrefix, quoteL]
  have h2 : Hid (dblL [] (s.extract 1 s.size).data.toList = some (l, rest)) := by show _ = _; rw [ext_drop, hl]; exact dbl_quote l rest
  have h3 : 1 ≤ s.size := by rw [Lib.size_eq, hl]; simp [quoteL]
  have h4 : (s.extract 1 s.size).size ≤ 1000000000000 := by simp; omega
  clear hl
  go_enter Tryz.func41, Tryz.ntmps41
  go_wp2_with (first
    | (go_at_call 39; refine (Tryz.strings_HasPrefix _ _ _).mono ?_; rintro e w1 ⟨he, hw⟩; rw [h1.out] at he; have hw2 := hw.symm; subst he hw2)
    | (go_at_call 67; refine (cdouble_any _ h4 _).mono ?_; rintro e w2 ⟨hb, he⟩; rw [h2.out] at he; simp only at he; subst he))
  go_ret3
  exact ⟨rfl, hb⟩

set_option maxHeartbeats 1000000 in
theorem cUnquote_none (s : ByteArray) (hp1 : Lib.hasPrefix s.data.toList [34] = false) (hp2 : Lib.hasPrefix s.data.toList [39] = false) (w : World) :
    Calls Tryz.prog 41 #[.string s] w fun e w' => e = .returned (.tuple #[.string ⟨#[]⟩, .string ⟨#[]⟩, .int .i64 11]) ∧ w' = w := by
  have h1 := Lib.hid hp1
  have h2 := Lib.hid hp2
  clear hp1 hp2
  go_enter Tryz.func41, Tryz.ntmps41
  go_wp2_with (first
    | ((with_reducible refine (Tryz.strings_HasPrefix s ⟨#[34]⟩ _).mono ?_); rintro e w1 ⟨he, hw⟩; rw [h1.out] at he; have hw2 := hw.symm; subst he hw2)
    | ((with_reducible refine (Tryz.strings_HasPrefix s ⟨#[39]⟩ _).mono ?_); rintro e w1 ⟨he, hw⟩; rw [h2.out] at he; have hw2 := hw.symm; subst he hw2))
  go_ret3
  exact ⟨rfl, rfl⟩

def boolW (b : Bool) : ByteArray := if b = true then ⟨#[116, 114, 117, 101]⟩ else ⟨#[102, 97, 108, 115, 101]⟩
end Go.Proofs.YtlniokpekcoodaaGreatDoor

/-
  A text in single quotes: what is read, what is written, and that they fit; and that what is read in double quotes is what is written in them.
-/
set_option linter.unusedVariables false
set_option linter.unusedSimpArgs false
namespace Go.Proofs.YtlniokpekcoodaaGreatDoor
open Go.RowKit

/-- A text in single quotes, behind the first one: what it says, and what stands behind it. -/
def sglL : List UInt8 → List UInt8 → Option (List UInt8 × List UInt8)
  | _, [] => none
  | acc, c :: r =>
    if c = 39 then
      match r with
      | [] => some (acc, [])
      | d :: r2 => if d = 39 then sglL (acc ++ [39]) r2 else some (acc, d :: r2)
    else sglL (acc ++ [c]) r

theorem sgl_other (acc r : List UInt8) {c : UInt8} (h : c ≠ 39) : sglL acc (c :: r) = sglL (acc ++ [c]) r := by rw [sglL.eq_def]; exact if_neg h
theorem sgl_two (acc r : List UInt8) : sglL acc (39 :: 39 :: r) = sglL (acc ++ [39]) r := by rw [sglL.eq_def]; rfl
theorem sgl_end (acc r : List UInt8) (h : Lib.hasPrefix r [39] = false) : sglL acc (39 :: r) = some (acc, r) := by
  rw [sglL.eq_def]
  cases r with
  | nil => rfl
  | cons d r2 =>
    show (if d = 39 then sglL (acc ++ [39]) r2 else some (acc, d :: r2)) = _
    rw [if_neg]
    intro e
    subst e
    simp [Lib.hasPrefix] at h

theorem cut_nil : Lib.cut [] [39] = ([], [], false) := rfl
theorem cut_here (r : List UInt8) : Lib.cut (39 :: r) [39] = ([], r, true) := by
  have : Lib.index (39 :: r) [39] = 0 := by rw [Lib.index_one]; rfl
  unfold Lib.cut
  rw [this]
  rfl
theorem cut_on (r : List UInt8) {c : UInt8} (h : c ≠ 39) {p q : List UInt8} {f : Bool} (hc : Lib.cut r [39] = (p, q, f)) : Lib.cut (c :: r) [39] = (c :: p, q, f) := by
  have e : Lib.index (c :: r) [39] = if Lib.index r [39] == -1 then -1 else Lib.index r [39] + 1 := by
    rw [Lib.index_one, Lib.index_one, Lib.indexByte, show (c == 39) = false from beq_eq_false_iff_ne.2 h]
    rfl
  have hg := Lib.index_ge r [39]
  unfold Lib.cut at hc ⊢
  rw [e]
  by_cases h0 : 0 ≤ Lib.index r [39]
  · have n1 : (Lib.index r [39] == -1) = false := by rw [beq_eq_false_iff_ne]; omega
    rw [if_pos h0] at hc
    rw [n1]
    simp only [Bool.false_eq_true, if_false]
    rw [if_pos (by omega)]
    injection hc with h1 h2
    injection h2 with h2 h3
    subst h1 h2 h3
    have : (Lib.index r [39] + 1).toNat = (Lib.index r [39]).toNat + 1 := by omega
    rw [this]
    rfl
  · have n1 : (Lib.index r [39] == -1) = true := by rw [beq_iff_eq]; omega
    rw [if_neg h0] at hc
    rw [n1]
    injection hc with h1 h2
    injection h2 with h2 h3
    subst h1 h2 h3
    rfl
/-- What the first single quote parts. -/
theorem sgl_cut : ∀ (l acc p q : List UInt8) (f : Bool), Lib.cut l [39] = (p, q, f) → (f = false → sglL acc l = none) ∧ (f = true → sglL acc l = sglL (acc ++ p) (39 :: q) ∧ p.length + q.length + 1 = l.length)
  | [], acc, p, q, f, h => by
    rw [cut_nil] at h
    injection h with h1 h2
    injection h2 with h2 h3
    subst h1 h2 h3
    exact ⟨fun _ => rfl, fun h => (by cases h)⟩
  | c :: l, acc, p, q, f, h => by
    by_cases hc : c = 39
    · subst hc
      rw [cut_here] at h
      injection h with h1 h2
      injection h2 with h2 h3
      subst h1 h2 h3
      exact ⟨fun h => (by cases h), fun _ => ⟨(by rw [List.append_nil]), (by simp)⟩⟩
    · obtain ⟨⟨p', q', f'⟩, hr⟩ : ∃ x, Lib.cut l [39] = x := ⟨_, rfl⟩
      rw [cut_on l hc hr] at h
      injection h with h1 h2
      injection h2 with h2 h3
      subst h1 h2 h3
      obtain ⟨k1, k2⟩ := sgl_cut l (acc ++ [c]) _ _ _ hr
      rw [sgl_other acc l hc]
      refine ⟨k1, fun hf => ?_⟩
      obtain ⟨k3, k4⟩ := k2 hf
      refine ⟨by rw [k3]; simp, by simp; omega⟩

/-- How a byte stands in single quotes. -/
def sqB (b : UInt8) : List UInt8 := if b = 39 then [39, 39] else [b]
def singleL (l : List UInt8) : List UInt8 := 39 :: (l.flatMap sqB ++ [39])
theorem sgl_esc (rest : List UInt8) (h : Lib.hasPrefix rest [39] = false) : ∀ l acc : List UInt8, sglL acc (l.flatMap sqB ++ 39 :: rest) = some (acc ++ l, rest)
  | [], acc => by rw [List.append_nil]; exact sgl_end acc rest h
  | b :: l, acc => by
    rw [List.flatMap_cons, List.append_assoc]
    by_cases hb : b = 39
    · subst hb
      show sglL acc (39 :: 39 :: (l.flatMap sqB ++ 39 :: rest)) = _
      rw [sgl_two, sgl_esc rest h l]
      simp
    · rw [sqB, if_neg hb]
      show sglL acc (b :: (l.flatMap sqB ++ 39 :: rest)) = _
      rw [sgl_other _ _ hb, sgl_esc rest h l]
      simp
theorem sgl_quote (l rest : List UInt8) (h : Lib.hasPrefix rest [39] = false) : sglL [] ((singleL l ++ rest).drop 1) = some (l, rest) := by
  have : (singleL l ++ rest).drop 1 = l.flatMap sqB ++ 39 :: rest := by simp [singleL]
  rw [this, sgl_esc rest h]
  rfl

/-- What is read in single quotes is what is written in them. -/
theorem sgl_inv : ∀ (n : Nat) (l acc a d : List UInt8), l.length ≤ n → sglL acc l = some (a, d) → ∃ c, a = acc ++ c ∧ c.flatMap sqB ++ 39 :: d = l
  | _, [], acc, a, d, _, h => by cases h
  | 0, c :: l, acc, a, d, hn, h => absurd hn (by simp)
  | n + 1, c :: l, acc, a, d, hn, h => by
    by_cases hc : c = 39
    · subst hc
      cases l with
      | nil =>
        have e : sglL acc [39] = some (acc, []) := rfl
        rw [e] at h
        injection h with h
        injection h with h1 h2
        subst h1 h2
        exact ⟨[], by simp, rfl⟩
      | cons x l =>
        by_cases hx : x = 39
        · subst hx
          rw [sgl_two] at h
          obtain ⟨c, h1, h2⟩ := sgl_inv n l (acc ++ [39]) a d (by simp at hn; omega) h
          exact ⟨39 :: c, by rw [h1]; simp, by rw [List.flatMap_cons, List.append_assoc, h2]; rfl⟩
        · rw [sgl_end acc (x :: l) (by simp [Lib.hasPrefix, List.isPrefixOf]; exact fun e => hx e.symm)] at h
          injection h with h
          injection h with h1 h2
          subst h1 h2
          exact ⟨[], by simp, rfl⟩
    · rw [sgl_other _ _ hc] at h
      obtain ⟨c', h1, h2⟩ := sgl_inv n l (acc ++ [c]) a d (by simpa using hn) h
      exact ⟨c :: c', by rw [h1]; simp, by rw [List.flatMap_cons, List.append_assoc, h2, sqB, if_neg hc]; rfl⟩

theorem meant_inv {d b : UInt8} (h : meantB d = some b) : escB b = [92, d] := by
  unfold meantB at h
  by_cases h1 : d.toNat = 110
  · rw [if_pos h1] at h
    injection h with h
    subst h
    rw [show d = 110 from byteIs h1]
    rfl
  · rw [if_neg h1] at h
    by_cases h2 : d.toNat = 116
    · rw [if_pos h2] at h
      injection h with h
      subst h
      rw [show d = 116 from byteIs h2]
      rfl
    · rw [if_neg h2] at h
      by_cases h3 : d.toNat = 34 ∨ d.toNat = 92
      · rw [if_pos h3] at h
        injection h with h
        subst h
        exact esc_bs h3
      · rw [if_neg h3] at h
        cases h
/-- What is read in double quotes is what is written in them. -/
theorem dbl_inv : ∀ (n : Nat) (l acc a d : List UInt8), l.length ≤ n → dblL acc l = some (a, d) → ∃ c, a = acc ++ c ∧ c.flatMap escB ++ 34 :: d = l
  | _, [], acc, a, d, _, h => by
    rw [dblL.eq_def] at h
    cases h
  | 0, c :: l, acc, a, d, hn, h => absurd hn (by simp)
  | n + 1, c :: l, acc, a, d, hn, h => by
    rw [dbl_cons] at h
    by_cases h1 : c.toNat = 34
    · rw [if_pos h1] at h
      injection h with h
      injection h with h2 h3
      subst h2 h3
      rw [show c = 34 from byteIs h1]
      exact ⟨[], by simp, rfl⟩
    · rw [if_neg h1] at h
      by_cases h2 : c.toNat = 10 ∨ c.toNat = 9
      · rw [if_pos h2] at h
        cases h
      · rw [if_neg h2] at h
        by_cases h3 : c.toNat = 92
        · rw [if_pos h3] at h
          cases l with
          | nil => cases h
          | cons x l =>
            simp only at h
            cases hm : meantB x with
            | none => rw [hm] at h; cases h
            | some b =>
              rw [hm] at h
              obtain ⟨c', k1, k2⟩ := dbl_inv n l (acc ++ [b]) a d (by simp at hn; omega) h
              rw [show c = 92 from byteIs h3]
              exact ⟨b :: c', by rw [k1]; simp, by rw [List.flatMap_cons, List.append_assoc, k2, meant_inv hm]; rfl⟩
        · rw [if_neg h3] at h
          obtain ⟨c', k1, k2⟩ := dbl_inv n l (acc ++ [c]) a d (by simpa using hn) h
          exact ⟨c :: c', by rw [k1]; simp, by rw [List.flatMap_cons, List.append_assoc, k2, esc_self (by omega) (by omega) h1 h3]; rfl⟩

end Go.Proofs.YtlniokpekcoodaaGreatDoor
