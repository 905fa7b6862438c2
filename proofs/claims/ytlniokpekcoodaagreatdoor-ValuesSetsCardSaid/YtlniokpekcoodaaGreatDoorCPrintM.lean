/-
  Package scalar's Print of a text, and the law's awake.
-/
import Derived.Test.YtlniokpekcoodaaGreatDoorCParse
import Derived.Lib.LaidTab
import Derived.Test.YtlniokpekcoodaaGreatDoorBareM
import Derived.Lib.IndexBytes
import Derived.Lib.IndexMore
import Derived.Test.YtlniokpekcoodaaGreatDoorVals
import Derived.Test.YtlniokpekcoodaaGreatDoorShelf
import Derived.Lib.Builder
import Derived.Lib.AppendStr
import Derived.Lib.UnsafeStr
set_option linter.unusedVariables false
set_option linter.unusedSimpArgs false
namespace Go.Proofs.YtlniokpekcoodaaGreatDoor
open Go.RowKit

end Go.Proofs.YtlniokpekcoodaaGreatDoor

/-
  ScalarBares: the law's contract.
-/
set_option linter.unusedVariables false
set_option linter.unusedSimpArgs false
namespace Go.Proofs.YtlniokpekcoodaaGreatDoor
open Go.RowKit

end Go.Proofs.YtlniokpekcoodaaGreatDoor

/-
  Numerals: what is printed of a whole number is read as it, with noughts ahead, too.
-/
set_option linter.unusedVariables false
set_option linter.unusedSimpArgs false
namespace Go.Proofs.YtlniokpekcoodaaGreatDoor
open Go.RowKit

/-- The number that digits spell behind another. -/
def valL (acc : Nat) : List UInt8 → Nat
  | [] => acc
  | c :: r => valL (acc * 10 + (c.toNat - 48)) r

theorem valL_append : ∀ (a b : List UInt8) (acc : Nat), valL acc (a ++ b) = valL (valL acc a) b
  | [], b, acc => rfl
  | c :: a, b, acc => valL_append a b _
theorem valL_le : ∀ (l : List UInt8) (acc : Nat), acc ≤ valL acc l
  | [], acc => Nat.le_refl _
  | c :: l, acc => Nat.le_trans (by omega) (valL_le l (acc * 10 + (c.toNat - 48)))
theorem digit_iff {c : UInt8} : digitB c = true ↔ 48 ≤ c.toNat ∧ c.toNat ≤ 57 := by
  unfold digitB
  simp
theorem parse_val (M : Nat) (hM : M ≤ 18446744073709551615) : ∀ (l : List UInt8) (acc : Nat), l.all digitB = true → valL acc l ≤ M → Lib.parseUintM M acc l = .ok (valL acc l)
  | [], acc, _, _ => rfl
  | c :: l, acc, h, hv => by
    rw [List.all_cons, Bool.and_eq_true] at h
    have hc := digit_iff.1 h.1
    have h1 := valL_le l (acc * 10 + (c.toNat - 48))
    have hv' : valL (acc * 10 + (c.toNat - 48)) l ≤ M := hv
    rw [Lib.parseUintM, if_pos hc, if_neg (by omega), if_neg (by omega), parse_val M hM l _ h.2 hv']
    rfl
/-- Digits are read as their number. -/
theorem parse_pos {l : List UInt8} (h : l.all digitB = true) (h0 : l ≠ []) (hv : valL 0 l < 9223372036854775808) : Lib.parseIntB 64 l = .ok (valL 0 l) := by
  have hp := parse_val (2 ^ 64 - 1) (by decide) l 0 h (by omega)
  cases l with
  | nil => exact absurd rfl h0
  | cons c l =>
    have hc := digit_iff.1 (by rw [List.all_cons, Bool.and_eq_true] at h; exact h.1)
    have e1 : ¬ (c.toNat = 43 ∨ c.toNat = 45) := by omega
    have e2 : ¬ (c.toNat = 45) := by omega
    unfold Lib.parseIntB
    simp only [if_neg e1]
    unfold Lib.parseUintB
    rw [if_neg (by simp), hp]
    simp only
    rw [if_neg (by rintro ⟨_, h⟩; revert h; show ¬ 2 ^ 63 ≤ _; omega), if_neg (by rintro ⟨h, _⟩; exact e2 h), if_neg e2]
theorem parse_neg {l : List UInt8} (h : l.all digitB = true) (h0 : l ≠ []) (hv : valL 0 l ≤ 9223372036854775808) : Lib.parseIntB 64 (45 :: l) = .ok (-(valL 0 l : Int)) := by
  have hp := parse_val (2 ^ 64 - 1) (by decide) l 0 h (by omega)
  have e3 : (45 : UInt8).toNat = 45 := rfl
  unfold Lib.parseIntB
  simp only [e3]
  rw [if_pos (Or.inr trivial)]
  unfold Lib.parseUintB
  rw [if_neg h0, hp]
  simp only
  rw [if_neg (by rintro ⟨h, _⟩; exact h trivial), if_neg (by rintro ⟨_, h⟩; revert h; show ¬ 2 ^ 63 < _; omega)]
  simp

end Go.Proofs.YtlniokpekcoodaaGreatDoor

/-
  Package scalar's Print and Text of a whole number.
-/
set_option linter.unusedVariables false
set_option linter.unusedSimpArgs false
namespace Go.Proofs.YtlniokpekcoodaaGreatDoor
open Go.RowKit

/-- The table of powers of ten, as the library lays it. -/
def Pow10 (w : World) : Prop := Lib.TabIs Tryz.prog w "internal/strconv.uint64pow10" .u64 Lib.pow10Tab

theorem Tryz.gPow : Tryz.prog.globalNamed "internal/strconv.uint64pow10" = some 5 := by kernel_rfl
theorem Pow10.below {w w' : World} (h : Pow10 w) (hb : Below w.heap.size w w') : Pow10 w' := by
  have hg := Tryz.gPow
  unfold Pow10 Lib.TabIs World.var? at h ⊢
  rw [hg] at h ⊢
  simp only [Option.bind_some] at h ⊢
  have hlt : 5 < w.heap.size := by
    rcases Nat.lt_or_ge 5 w.heap.size with h' | h'
    · exact h'
    · rw [Array.getElem?_eq_none h'] at h; cases h
  rw [hb.block 5 hlt]
  exact h

end Go.Proofs.YtlniokpekcoodaaGreatDoor

/-
  Package scalar's Unquote of a text in double quotes, and of one in none; Print of nothing and of a truth.
-/
set_option linter.unusedVariables false
set_option linter.unusedSimpArgs false
namespace Go.Proofs.YtlniokpekcoodaaGreatDoor
open Go.RowKit

theorem dbl_esc : ∀ (l rest acc : List UInt8), dblL acc (l.flatMap escB ++ 34 :: rest) = some (acc ++ l, rest)
  | [], rest, acc => by
    show dblL acc (34 :: rest) = _
    rw [dbl_cons, if_pos (by decide), List.append_nil]
  | b :: l, rest, acc => by
    have ih := fun a => dbl_esc l rest a
    rw [List.flatMap_cons, List.append_assoc]
    have two : ∀ d x : UInt8, meantB d = some x → dblL acc (92 :: d :: (l.flatMap escB ++ 34 :: rest)) = some (acc ++ x :: l, rest) := fun d x h => by
      rw [dbl_cons, if_neg (by decide), if_neg (by decide), if_pos (by decide)]
      simp only [h]
      rw [ih]
      simp
    by_cases h1 : b = 10
    · subst h1
      exact two 110 10 (by decide)
    · by_cases h2 : b = 9
      · subst h2
        exact two 116 9 (by decide)
      · by_cases h3 : b = 34 ∨ b = 92
        · have e : escB b = [92, b] := by rw [escB, if_neg h1, if_neg h2, if_pos h3]
          rw [e]
          refine two b b ?_
          rcases h3 with rfl | rfl <;> decide
        · have e : escB b = [b] := by rw [escB, if_neg h1, if_neg h2, if_neg h3]
          rw [e]
          show dblL acc (b :: (l.flatMap escB ++ 34 :: rest)) = _
          have n1 : b.toNat ≠ 34 := fun h => h3 (.inl (byteIs h))
          have n2 : b.toNat ≠ 92 := fun h => h3 (.inr (byteIs h))
          have n3 : b.toNat ≠ 10 := fun h => h1 (byteIs h)
          have n4 : b.toNat ≠ 9 := fun h => h2 (byteIs h)
          rw [dbl_cons, if_neg n1, if_neg (by omega), if_neg n2, ih]
          simp
theorem dbl_quote (l rest : List UInt8) : dblL [] ((quoteL l ++ rest).drop 1) = some (l, rest) := by
  have : (quoteL l ++ rest).drop 1 = l.flatMap escB ++ 34 :: rest := by simp [quoteL]
  rw [this, dbl_esc]
  rfl

set_option maxHeartbeats 1000000 in
theorem cUnquote_none (s : ByteArray) (hp1 : Lib.hasPrefix s.data.toList [34] = false) (hp2 : Lib.hasPrefix s.data.toList [39] = false) (w : World) :
    Calls Tryz.prog 41 #[.string s] w fun e w' => e = .returned (.tuple #[.string ⟨#[]⟩, .string ⟨#[]⟩, .int .i64 11]) ∧ w' = w := by
  have h1 := Lib.hid hp1
  have h2 := Lib.hid hp2
  clear hp1 hp2
  go_enter Tryz.func41, Tryz.ntmps41
  go_wp2_with (first
    | ((with_reducible refine (Tryz.strings_HasPrefix s ⟨#[34]⟩ _).mono ?_); rintro e w1 ⟨he, hw⟩; rw [h1.out] at he; have hw2 := hw.symm; subst he hw2)
    | ((with_reducible refine (Tryz.strings_HasPrefix s ⟨#[39]⟩ _).mono ?_); rintro e w1 ⟨he, hw⟩; rw [h2.out] at he; have hw2 := hw.symm; subst he hw2))
  go_ret3
  exact ⟨rfl, rfl⟩

def boolW (b : Bool) : ByteArray := if b = true then ⟨#[116, 114, 117, 101]⟩ else ⟨#[102, 97, 108, 115, 101]⟩
end Go.Proofs.YtlniokpekcoodaaGreatDoor

/-
  A text in single quotes: what is read, what is written, and that they fit; and that what is read in double quotes is what is written in them.
-/
set_option linter.unusedVariables false
set_option linter.unusedSimpArgs false
namespace Go.Proofs.YtlniokpekcoodaaGreatDoor
open Go.RowKit

/-- A text in single quotes, behind the first one: what it says, and what stands behind it. -/
def sglL : List UInt8 → List UInt8 → Option (List UInt8 × List UInt8)
  | _, [] => none
  | acc, c :: r =>
    if c = 39 then
      match r with
      | [] => some (acc, [])
      | d :: r2 => if d = 39 then sglL (acc ++ [39]) r2 else some (acc, d :: r2)
    else sglL (acc ++ [c]) r

theorem sgl_other (acc r : List UInt8) {c : UInt8} (h : c ≠ 39) : sglL acc (c :: r) = sglL (acc ++ [c]) r := by rw [sglL.eq_def]; exact if_neg h
theorem sgl_two (acc r : List UInt8) : sglL acc (39 :: 39 :: r) = sglL (acc ++ [39]) r := by rw [sglL.eq_def]; rfl
theorem sgl_end (acc r : List UInt8) (h : Lib.hasPrefix r [39] = false) : sglL acc (39 :: r) = some (acc, r) := by
  rw [sglL.eq_def]
  cases r with
  | nil => rfl
  | cons d r2 =>
    show (if d = 39 then sglL (acc ++ [39]) r2 else some (acc, d :: r2)) = _
    rw [if_neg]
    intro e
    subst e
    simp [Lib.hasPrefix] at h

theorem cut_nil : Lib.cut [] [39] = ([], [], false) := rfl
theorem cut_here (r : List UInt8) : Lib.cut (39 :: r) [39] = ([], r, true) := by
  have : Lib.index (39 :: r) [39] = 0 := by rw [Lib.index_one]; rfl
  unfold Lib.cut
  rw [this]
  rfl
theorem cut_on (r : List UInt8) {c : UInt8} (h : c ≠ 39) {p q : List UInt8} {f : Bool} (hc : Lib.cut r [39] = (p, q, f)) : Lib.cut (c :: r) [39] = (c :: p, q, f) := by
  have e : Lib.index (c :: r) [39] = if Lib.index r [39] == -1 then -1 else Lib.index r [39] + 1 := by
    rw [Lib.index_one, Lib.index_one, Lib.indexByte, show (c == 39) = false from beq_eq_false_iff_ne.2 h]
    rfl
  have hg := Lib.index_ge r [39]
  unfold Lib.cut at hc ⊢
  rw [e]
  by_cases h0 : 0 ≤ Lib.index r [39]
  · have n1 : (Lib.index r [39] == -1) = false := by rw [beq_eq_false_iff_ne]; omega
    rw [if_pos h0] at hc
    rw [n1]
    simp only [Bool.false_eq_true, if_false]
    rw [if_pos (by omega)]
    injection hc with h1 h2
    injection h2 with h2 h3
    subst h1 h2 h3
    have : (Lib.index r [39] + 1).toNat = (Lib.index r [39]).toNat + 1 := by omega
    rw [this]
    rfl
  · have n1 : (Lib.index r [39] == -1) = true := by rw [beq_iff_eq]; omega
    rw [if_neg h0] at hc
    rw [n1]
    injection hc with h1 h2
    injection h2 with h2 h3
    subst h1 h2 h3
    rfl
/-- What the first single quote parts. -/
theorem sgl_cut : ∀ (l acc p q : List UInt8) (f : Bool), Lib.cut l [39] = (p, q, f) → (f = false → sglL acc l = none) ∧ (f = true → sglL acc l = sglL (acc ++ p) (39 :: q) ∧ p.length + q.length + 1 = l.length)
  | [], acc, p, q, f, h => by
    rw [cut_nil] at h
    injection h with h1 h2
    injection h2 with h2 h3
    subst h1 h2 h3
    exact ⟨fun _ => rfl, fun h => (by cases h)⟩
  | c :: l, acc, p, q, f, h => by
    by_cases hc : c = 39
    · subst hc
      rw [cut_here] at h
      injection h with h1 h2
      injection h2 with h2 h3
      subst h1 h2 h3
      exact ⟨fun h => (by cases h), fun _ => ⟨(by rw [List.append_nil]), (by simp)⟩⟩
    · obtain ⟨⟨p', q', f'⟩, hr⟩ : ∃ x, Lib.cut l [39] = x := ⟨_, rfl⟩
      rw [cut_on l hc hr] at h
      injection h with h1 h2
      injection h2 with h2 h3
      subst h1 h2 h3
      obtain ⟨k1, k2⟩ := sgl_cut l (acc ++ [c]) _ _ _ hr
      rw [sgl_other acc l hc]
      refine ⟨k1, fun hf => ?_⟩
      obtain ⟨k3, k4⟩ := k2 hf
      refine ⟨by rw [k3]; simp, by simp; omega⟩

/-- How a byte stands in single quotes. -/
def sqB (b : UInt8) : List UInt8 := if b = 39 then [39, 39] else [b]
def singleL (l : List UInt8) : List UInt8 := 39 :: (l.flatMap sqB ++ [39])
theorem sgl_esc (rest : List UInt8) (h : Lib.hasPrefix rest [39] = false) : ∀ l acc : List UInt8, sglL acc (l.flatMap sqB ++ 39 :: rest) = some (acc ++ l, rest)
  | [], acc => by rw [List.append_nil]; exact sgl_end acc rest h
  | b :: l, acc => by
    rw [List.flatMap_cons, List.append_assoc]
    by_cases hb : b = 39
    · subst hb
      show sglL acc (39 :: 39 :: (l.flatMap sqB ++ 39 :: rest)) = _
      rw [sgl_two, sgl_esc rest h l]
      simp
    · rw [sqB, if_neg hb]
      show sglL acc (b :: (l.flatMap sqB ++ 39 :: rest)) = _
      rw [sgl_other _ _ hb, sgl_esc rest h l]
      simp
theorem sgl_quote (l rest : List UInt8) (h : Lib.hasPrefix rest [39] = false) : sglL [] ((singleL l ++ rest).drop 1) = some (l, rest) := by
  have : (singleL l ++ rest).drop 1 = l.flatMap sqB ++ 39 :: rest := by simp [singleL]
  rw [this, sgl_esc rest h]
  rfl

end Go.Proofs.YtlniokpekcoodaaGreatDoor

/-
  The methods of a strings.Builder, at this program: copyCheck, WriteString, WriteByte (after the library's walks of the same methods).
-/
set_option linter.unusedVariables false
set_option linter.unusedSimpArgs false
namespace Go.Proofs.YtlniokpekcoodaaGreatDoor
open Go.RowKit

set_option maxHeartbeats 1000000 in
set_option maxRecDepth 100000 in
theorem copyCheck_used (b : Nat) (w : World) (h0 : w.cell? ⟨b, 0, none⟩ = some (.pointer (some ⟨b, 0, none⟩))) :
    Calls Tryz.prog 130 #[.pointer (some ⟨b, 0, none⟩)] w fun e w' => e = .returned (.tuple #[]) ∧ w' = w := by
  have X := Tryz.Builder_Extra_169
  obtain ⟨j, hj, _⟩ := Option.map_eq_some_iff.1 X.sizeBuilder
  go_enter Tryz.func130, Tryz.ntmps130
  go_wp2
  rw [Lib.run_neq_ptr_same w _ Tryz.underlying103 hj]
  go_wp2
  go_end0
  exact ⟨rfl, rfl⟩

set_option maxHeartbeats 1000000 in
set_option maxRecDepth 100000 in
theorem copyCheck_fresh (b : Nat) (w : World) (h0 : w.cell? ⟨b, 0, none⟩ = some (.pointer none)) (hsh : w.shape? b = some (105, 2)) (hfz : w.frozen? ⟨b, 0, none⟩ = false) :
    Calls Tryz.prog 130 #[.pointer (some ⟨b, 0, none⟩)] w fun e w' => e = .returned (.tuple #[]) ∧ w' = w.setCell ⟨b, 0, none⟩ (.pointer (some ⟨b, 0, none⟩)) := by
  have X := Tryz.Builder_Extra_169
  obtain ⟨j, hj, hjs⟩ := Option.map_eq_some_iff.1 X.sizeBuilder
  go_enter Tryz.func130, Tryz.ntmps130
  go_wp2
  rw [Lib.run_to_unsafe w ⟨b, 0, none⟩ Tryz.underlying103 Tryz.underlying158 hj (by rw [hjs]; decide) hsh (Nat.zero_lt_succ 1)]
  simp only [Result.andThen]
  rw [Oper.upon_value]
  go_wp2
  rw [run_callFunc_extern Tryz.func151 (by kernel_rfl) (by kernel_rfl) (by kernel_rfl) (e := Extern.AbiNoEscape.same) (by kernel_rfl)]
  rw [Lib.run_noEscape]
  simp only [Result.andThen]
  rw [Oper.upon_value]
  go_wp2
  rw [Lib.run_from_unsafe w ⟨b, 0, none⟩ Tryz.underlying158 Tryz.underlying103 hj hsh X.liesBuilder]
  simp only [Result.andThen]
  rw [Oper.upon_value]
  go_wp2
  go_end0
  exact ⟨rfl, rfl⟩

theorem copyCheck_any (B b : Nat) (bs : List Value) (w : World) (h : Lib.IsBuilder 105 5 B b bs w) :
    Calls Tryz.prog 130 #[.pointer (some ⟨b, 0, none⟩)] w fun e w' => e = .returned (.tuple #[]) ∧ (Lib.BuilderAt 105 5 B b (.pointer (some ⟨b, 0, none⟩)) bs w' ∧ Below B w w') := by
  rcases h with h | h
  · refine (copyCheck_fresh b w h.cell0 h.shape h.frozen0).mono ?_
    rintro e w' ⟨rfl, rfl⟩
    exact ⟨rfl, h.used _, (Below.refl B w).setCell (p := ⟨b, 0, none⟩) h.1 _⟩
  · refine (copyCheck_used b w h.cell0).mono ?_
    rintro e w' ⟨rfl, rfl⟩
    exact ⟨rfl, h, Below.refl B _⟩

set_option maxHeartbeats 2000000 in
set_option maxRecDepth 100000 in
theorem writeByte_any (B b : Nat) (bs : List Value) (c : Int) (w : World) (h : Lib.IsBuilder 105 5 B b bs w) (hlen : bs.length + 1 ≤ 140737488355328) (hBw : B ≤ w.heap.size) :
    Calls Tryz.prog 96 #[.pointer (some ⟨b, 0, none⟩), .int .u8 c] w fun e w' => e = .returned .nilIface ∧ (Lib.BuilderAt 105 5 B b (.pointer (some ⟨b, 0, none⟩)) (bs ++ [.int .u8 c]) w' ∧ Below B w w') := by
  have X := Tryz.Builder_Extra_169
  obtain ⟨i0, hi, hz0, hz1, hz2⟩ := info_parts X.infoByte
  have neB5 : 105 ≠ 5 := by decide
  clear X
  go_enter Tryz.func96, Tryz.ntmps96
  go_wp2_with (go_at_call 130; refine (copyCheck_any B b bs _ h).mono ?_)
  rintro e w1 ⟨rfl, h1, hb1⟩
  obtain ⟨hB, v, hbk, hown, hne⟩ := h1
  have c0 : w1.cell? ⟨b, 0, none⟩ = some (.pointer (some ⟨b, 0, none⟩)) := by rw [Lib.cell_of_heap hbk]; rfl
  have c1 : w1.cell? ⟨b, 1, none⟩ = some v := by rw [Lib.cell_of_heap hbk]; rfl
  go_wp2_with (at_builtin; refine wpList_append_own _ rfl _ _ 67 rfl B 5 i0 (.int .u8 0) 1 1 Tryz.underlying67 hi hz0 hz1 hz2 rfl (by decide) _ _ _ rfl (hown.alloc _) ⟨w1.heap.size, 0, none⟩ 1 1 [.int .u8 c] rfl rfl ?c1 ?c2 ?c3 ?c4 ?c5 ?_)
  case c1 =>
    intro j u hj
    match j, hj with
    | 0, hj => simp at hj; subst hj; simp [Addr.add]
  case c2 => intro u hu; simp at hu; subst hu; rfl
  case c3 => unfold maxLen; omega
  case c4 => omega
  case c5 => have := hb1.size; simp; omega
  intro v' w2 hown' hgrow _
  have hlt : b < w1.heap.size := by
    rcases Nat.lt_or_ge b w1.heap.size with h' | h'
    · exact h'
    · simp [Array.getElem?_eq_none h'] at hbk
  have hb2 : w2.heap[b]? = some (.cells #[.pointer (some ⟨b, 0, none⟩), v] 105 (0, 0)) := by
    rw [hgrow.block b (by simp; omega) (fun e => hne e.symm), Lib.alloc_old w1 _ b hlt]
    exact hbk
  have d0 : w2.cell? ⟨b, 0, none⟩ = some (.pointer (some ⟨b, 0, none⟩)) := by rw [Lib.cell_of_heap hb2]; rfl
  have d1 : w2.cell? ⟨b, 1, none⟩ = some v := by rw [Lib.cell_of_heap hb2]; rfl
  have f1 : w2.frozen? ⟨b, 1, none⟩ = false := Lib.frozen_of_heap hb2 1
  obtain ⟨g, cap, rfl⟩ : ∃ g cap, v' = .slice (some ⟨g, 0, none⟩) (bs.length + 1) cap := by
    rcases hown'.2 with ⟨_, h0⟩ | ⟨g, cap, cur, hv, _⟩
    · omega
    · exact ⟨g, cap, hv⟩
  go_wp2
  go_ret
  refine ⟨rfl, ?_, ?_⟩
  · exact Lib.BuilderAt.put (T := 105) (e := 5) hB hb2 (bs' := bs ++ [.int .u8 c]) (by simpa using hown') neB5
  · exact ((hb1.alloc (by have := hb1.size; omega) _).grown hgrow (by have := hb1.size; simp; omega) (fun k hk => (hown.lt k hk).1)).setCell (p := ⟨b, 1, none⟩) hB _

set_option maxHeartbeats 2000000 in
set_option maxRecDepth 100000 in
theorem writeString_any (B b : Nat) (bs : List Value) (s : ByteArray) (w : World) (h : Lib.IsBuilder 105 5 B b bs w) (hlen : bs.length + s.size ≤ 140737488355328) (hBw : B ≤ w.heap.size) :
    Calls Tryz.prog 94 #[.pointer (some ⟨b, 0, none⟩), .string s] w fun e w' => e = .returned (.tuple #[.int .i64 s.size, .nilIface]) ∧ (Lib.BuilderAt 105 5 B b (.pointer (some ⟨b, 0, none⟩)) (bs ++ Lib.strCells s) w' ∧ Below B w w') := by
  have X := Tryz.Builder_Extra_169
  obtain ⟨i0, hi, hz0, hz1, hz2⟩ := info_parts X.infoByte
  have neB5 : 105 ≠ 5 := by decide
  clear X
  go_enter Tryz.func94, Tryz.ntmps94
  go_wp2_with (go_at_call 130; refine (copyCheck_any B b bs _ h).mono ?_)
  rintro e w1 ⟨rfl, h1, hb1⟩
  obtain ⟨hB, v, hbk, hown, hne⟩ := h1
  have c0 : w1.cell? ⟨b, 0, none⟩ = some (.pointer (some ⟨b, 0, none⟩)) := by rw [Lib.cell_of_heap hbk]; rfl
  have c1 : w1.cell? ⟨b, 1, none⟩ = some v := by rw [Lib.cell_of_heap hbk]; rfl
  go_wp2_with (at_builtin; refine Lib.wpList_append_own_string _ rfl _ _ 67 9 rfl B 5 i0 Tryz.underlying67 Tryz.underlying9 hi hz0 hz1 hz2 _ _ _ rfl hown s rfl ?c3 ?c4 ?c5 ?_)
  case c3 => unfold maxLen; omega
  case c4 => omega
  case c5 => have := hb1.size; omega
  intro v' w2 hown' hgrow _
  have hlt : b < w1.heap.size := by
    rcases Nat.lt_or_ge b w1.heap.size with h' | h'
    · exact h'
    · simp [Array.getElem?_eq_none h'] at hbk
  have hb2 : w2.heap[b]? = some (.cells #[.pointer (some ⟨b, 0, none⟩), v] 105 (0, 0)) := by
    rw [hgrow.block b hlt (fun e => hne e.symm)]
    exact hbk
  have d0 : w2.cell? ⟨b, 0, none⟩ = some (.pointer (some ⟨b, 0, none⟩)) := by rw [Lib.cell_of_heap hb2]; rfl
  have d1 : w2.cell? ⟨b, 1, none⟩ = some v := by rw [Lib.cell_of_heap hb2]; rfl
  have f1 : w2.frozen? ⟨b, 1, none⟩ = false := Lib.frozen_of_heap hb2 1
  obtain ⟨ao, n', cap, rfl⟩ : ∃ ao n' cap, v' = .slice ao n' cap := by
    rcases hown'.2 with ⟨hv, _⟩ | ⟨g, cap, cur, hv, _⟩
    · exact ⟨_, _, _, hv⟩
    · exact ⟨_, _, _, hv⟩
  go_wp2
  go_ret2
  refine ⟨rfl, ?_, ?_⟩
  · exact Lib.BuilderAt.put (T := 105) (e := 5) hB hb2 (bs' := bs ++ Lib.strCells s) (by simpa [Lib.strCells_length] using hown') neB5
  · exact (hb1.grown hgrow (by have := hb1.size; omega) (fun k hk => (hown.lt k hk).1)).setCell (p := ⟨b, 1, none⟩) hB _

end Go.Proofs.YtlniokpekcoodaaGreatDoor

/-
  Package scalar's single: a text in single quotes, read.
-/
set_option linter.unusedVariables false
set_option linter.unusedSimpArgs false
namespace Go.Proofs.YtlniokpekcoodaaGreatDoor
open Go.RowKit

theorem builder_same {B b : Nat} {bs : List Value} {w w' : World} (hh : w'.heap = w.heap) (h : Lib.IsBuilder 105 5 B b bs w) : Lib.IsBuilder 105 5 B b bs w' := by
  unfold Lib.IsBuilder Lib.BuilderAt World.ownsRow at h ⊢
  rw [hh]
  exact h
def strN : Value → Nat
  | .string s => s.size
  | _ => 0
/-- A text in a builder of one's own. -/
def Built (w0 wr : World) (acc : List UInt8) : Prop := Lib.IsBuilder 105 5 w0.heap.size w0.heap.size (Lib.byteCells acc) wr ∧ Below w0.heap.size w0 wr

theorem Built.drewN {w0 wr : World} {acc : List UInt8} (h : Built w0 wr acc) (n : Nat) : Built w0 (wr.drewN n) acc := ⟨builder_same rfl h.1, bdrewN h.2 n⟩
theorem built_string {w0 w1 : World} {acc : List UInt8} (h : Built w0 w1 acc) (s : ByteArray) (hn : acc.length + s.size ≤ 1000000000000) :
    Calls Tryz.prog 94 #[.pointer (some ⟨w0.heap.size, 0, none⟩), .string s] w1 fun e w' => e = .returned (.tuple #[.int .i64 s.size, .nilIface]) ∧ Built w0 w' (acc ++ s.data.toList) := by
  refine (writeString_any _ _ _ s w1 h.1 (by rw [Lib.byteCells_length]; omega) h.2.size).mono ?_
  rintro e w' ⟨rfl, k1, k2⟩
  refine ⟨rfl, .inr ?_, h.2.trans k2⟩
  rw [Lib.byteCells_append]
  exact k1
theorem built_byte {w0 w1 : World} {acc : List UInt8} (h : Built w0 w1 acc) (hn : acc.length ≤ 1000000000000) :
    Calls Tryz.prog 96 #[.pointer (some ⟨w0.heap.size, 0, none⟩), .int .u8 39] w1 fun e w' => e = .returned .nilIface ∧ Built w0 w' (acc ++ [39]) := by
  refine (writeByte_any _ _ _ 39 w1 h.1 (by rw [Lib.byteCells_length]; omega) h.2.size).mono ?_
  rintro e w' ⟨rfl, k1, k2⟩
  refine ⟨rfl, .inr ?_, h.2.trans k2⟩
  rw [Lib.byteCells_append]
  exact k1
theorem built_out {w0 w1 : World} {acc : List UInt8} (h : Built w0 w1 acc) :
    Calls Tryz.prog 95 #[.pointer (some ⟨w0.heap.size, 0, none⟩)] w1 fun e w' => e = .returned (.string ⟨acc.toArray⟩) ∧ Below w0.heap.size w0 w' := by
  refine (Tryz.Builder_String_any _ _ acc w1 h.1 h.2.size).mono ?_
  rintro e w' ⟨rfl, k⟩
  exact ⟨rfl, h.2.trans k⟩

set_option maxRecDepth 100000 in
set_option maxHeartbeats 4000000 in
theorem csingle_any (s : ByteArray) (hs : s.size ≤ 1000000) (m : Int) (w : World) (hm : w.cell? ⟨0, 0, none⟩ = some (.int .i64 m)) (h0 : 0 < w.heap.size) :
    Calls Tryz.prog 68 #[.string s] w (DoubleIn (sglL [] s.data.toList) w) := by
  have HM := Lib.hid hm
  clear hm
  have hB0 : Hid (Built w (w.alloc (.cells #[.pointer none, .slice none 0 0] 105)) []) := ⟨Lib.fresh_isBuilder 105 5 w, (Below.refl _ _).alloc (Nat.le_refl _) _⟩
  go_enter Tryz.func68, Tryz.ntmps68
  go_wp2_with fail
  go_loopw [0] (fun v wr => ∃ (x : ByteArray) (acc : List UInt8), v = .string x ∧ acc.length + x.size ≤ s.size ∧ Built w wr acc ∧ Hid (sglL [] s.data.toList = sglL acc x.data.toList)) (fun v _ => strN v)
  case atStart => exact ⟨s, [], rfl, by simp, hB0.out, rfl⟩
  case round =>
    obtain ⟨x, acc, rfl, hal, hbt, HD⟩ := hrel
    clear hB0
    have HBT := Lib.hid hbt
    have HM1 : Hid (wr.cell? ⟨0, 0, none⟩ = some (.int .i64 m)) := (hbt.2.cell (p := ⟨0, 0, none⟩) h0).trans HM.out
    clear hbt
    rcases hcut : Lib.cut x.data.toList [39] with ⟨p, q, found⟩
    have HC := Lib.hid hcut
    obtain ⟨k1, k2⟩ := sgl_cut x.data.toList acc p q found hcut
    clear hcut
    have hxz := Lib.size_eq x
    cases found
    · have HX : Hid (sglL [] s.data.toList = none) := HD.out.trans (k1 rfl)
      clear k1 k2 hxz
      go_wp2_with (go_at_call 28; refine (Tryz.strings_Cut _ _ m _ (by omega) HM1.out).mono ?_; rintro e w1 ⟨he, nq, rfl⟩; rw [HC.out] at he; subst he)
      go_ret3
      exact dbl_fin HX.out ⟨(HBT.out.drewN nq).2, rfl⟩
    · obtain ⟨k3, k4⟩ := k2 rfl
      have hpz : (⟨p.toArray⟩ : ByteArray).size = p.length := Lib.size_eq _
      have hqz : (⟨q.toArray⟩ : ByteArray).size = q.length := Lib.size_eq _
      rw [← hxz] at k4
      clear k1 k2 hxz
      cases hp : Lib.hasPrefix q [39] with
      | false =>
        have HX : Hid (sglL [] s.data.toList = some (acc ++ p, q)) := (HD.out.trans k3).trans (sgl_end _ _ hp)
        have HP := Lib.hid hp
        clear hp k3
        go_wp2_with (first
          | (go_at_call 28; refine (Tryz.strings_Cut _ _ m _ (by omega) HM1.out).mono ?_; rintro e w1 ⟨he, nq, rfl⟩; rw [HC.out] at he; subst he; have B1 := Lib.hid (HBT.out.drewN nq))
          | (go_at_call 94; refine (built_string B1.out _ (by omega)).mono ?_; rintro e w2 ⟨rfl, b2⟩; have B2 := Lib.hid b2; clear b2)
          | (go_at_call 39; refine (Tryz.strings_HasPrefix _ _ _).mono ?_; rintro e w3 ⟨he, hw⟩; rw [HP.out] at he; have hw2 := hw.symm; subst he hw2)
          | (go_at_call 95; refine (built_out B2.out).mono ?_; rintro e w4 ⟨rfl, hb4⟩))
        go_ret3
        exact dbl_fin HX.out ⟨hb4, rfl⟩
      | true =>
        obtain ⟨r, rfl⟩ : ∃ r, q = 39 :: r := by
          cases q with
          | nil => cases hp
          | cons y r =>
            refine ⟨r, ?_⟩
            simp [Lib.hasPrefix, List.isPrefixOf] at hp
            rw [hp]
        have HX : Hid (sglL [] s.data.toList = sglL ((acc ++ p) ++ [39]) ((⟨(39 :: r).toArray⟩ : ByteArray).extract 1 (⟨(39 :: r).toArray⟩ : ByteArray).size).data.toList) := by
          show _ = _
          rw [ext_drop, HD.out, k3]
          exact sgl_two _ _
        have HP := Lib.hid hp
        have hq1 : 1 ≤ (⟨(39 :: r).toArray⟩ : ByteArray).size := by rw [hqz]; simp
        have hez : ((⟨(39 :: r).toArray⟩ : ByteArray).extract 1 (⟨(39 :: r).toArray⟩ : ByteArray).size).size = r.length := by
          rw [Lib.size_eq, ext_drop]
          rfl
        have HEZ : Hid (((⟨(39 :: r).toArray⟩ : ByteArray).extract 1 (r.length + 1)).size = r.length) := hez
        have hqr : (39 :: r).length = r.length + 1 := rfl
        rw [hqr] at k4
        clear hez hqr
        clear hp k3
        go_wp2_with (first
          | (go_at_call 28; refine (Tryz.strings_Cut _ _ m _ (by omega) HM1.out).mono ?_; rintro e w1 ⟨he, nq, rfl⟩; rw [HC.out] at he; subst he; have B1 := Lib.hid (HBT.out.drewN nq))
          | (go_at_call 94; refine (built_string B1.out _ (by omega)).mono ?_; rintro e w2 ⟨rfl, b2⟩; have B2 := Lib.hid b2; clear b2)
          | (go_at_call 39; refine (Tryz.strings_HasPrefix _ _ _).mono ?_; rintro e w3 ⟨he, hw⟩; rw [HP.out] at he; have hw2 := hw.symm; subst he hw2)
          | (go_at_call 96; refine (built_byte B2.out (by simp; omega)).mono ?_; rintro e w4 ⟨rfl, b4⟩; have B4 := Lib.hid b4; clear b4))
        go_roundw
        case rel => exact ⟨_, _, rfl, by have := HEZ.out; simp only [List.length_append, List.length_cons, List.length_nil]; omega, B4.out, HX.out⟩
        case measure => have := HEZ.out; simp only [strN]; omega

end Go.Proofs.YtlniokpekcoodaaGreatDoor
