/-
  Print and Text of any value: package scalar's and the reference's.
-/
import Derived.Test.YtfadijofnaepnaaDoorRDigits
import Derived.Test.YtfadijofnaepnaaDoorRBare
import Derived.Test.YtfadijofnaepnaaDoorUnquote
set_option linter.unusedVariables false
set_option linter.unusedSimpArgs false
namespace Go.Proofs.YtfadijofnaepnaaDoor
open Go.RowKit

theorem r4Digits_any (n : Int) (h0 : -9223372036854775808 ≤ n) (h1 : n ≤ 9223372036854775807) (w : World) : Calls Tryd.prog 36 #[.int .i64 n] w fun e w' => e = .returned (.string ⟨(Lib.itoa n).toArray⟩) ∧ Below w.heap.size w w' := by
  by_cases h : n < 0
  · obtain ⟨u, rfl⟩ : ∃ u : Nat, n = -(u : Int) := ⟨n.natAbs, by omega⟩
    rw [Lib.itoa_neg u (by omega)]
    exact r4Digits_neg u (by omega) (by omega) w
  · obtain ⟨u, rfl⟩ : ∃ u : Nat, n = u := ⟨n.toNat, by omega⟩
    rw [Lib.itoa_nonneg]
    exact r4Digits_pos u (by omega) w

/-- A value's word. -/
def printB (k : Int) (b : Bool) (n : Int) (s : ByteArray) : ByteArray :=
  if k = 0 then ⟨#[110, 117, 108, 108]⟩ else if k = 1 then boolW b else if k = 2 then ⟨(Lib.itoa n).toArray⟩ else if k = 3 then wordB s else if k = 4 then ⟨#[91, 93]⟩ else ⟨#[123, 125]⟩
/-- A value as it stands in a text. -/
def saidB (k : Int) (b : Bool) (n : Int) (s : ByteArray) : ByteArray := if k = 0 then ⟨#[]⟩ else if k = 3 then s else printB k b n s

theorem print_cells (k : Int) (b : Bool) (n : Int) (s : ByteArray) (la : Option Addr) (ll lc : Nat) (ma : Option Addr) (ml mc : Nat) (w : World) : ∀ j v, #[Value.int .i64 k, .bool b, .int .i64 n, .string s, .slice la ll lc, .slice ma ml mc][j]? = some v → (w.alloc (.cells #[.int .i64 k, .bool b, .int .i64 n, .string s, .slice la ll lc, .slice ma ml mc] 25)).cell? ⟨w.heap.size, j, none⟩ = some v := fun j v h => by rw [World.cell?_alloc_new]; exact h

set_option maxHeartbeats 2000000 in
theorem cPrint_all (k : Int) (b : Bool) (n : Int) (s : ByteArray) (la : Option Addr) (ll lc : Nat) (ma : Option Addr) (ml mc : Nat) (hk0 : 0 ≤ k) (hk5 : k ≤ 5) (hs : s.size ≤ 1000000000000) (h0 : -9223372036854775808 ≤ n) (h1 : n ≤ 9223372036854775807) (w : World) (hp : Pow10 w) :
    Calls Tryd.prog 15 #[.agg #[.int .i64 k, .bool b, .int .i64 n, .string s, .slice la ll lc, .slice ma ml mc]] w fun e w' => e = .returned (.string (printB k b n s)) ∧ Below w.heap.size w w' := by
  rcases (by omega : k = 0 ∨ k = 1 ∨ k = 2 ∨ k = 3 ∨ k = 4 ∨ k = 5) with rfl | rfl | rfl | rfl | rfl | rfl
  · exact cPrint_null b n s la ll lc ma ml mc w
  · exact cPrint_bool b n s la ll lc ma ml mc w
  · exact cPrint_int b n s la ll lc ma ml mc h0 h1 w hp
  · exact cPrint_str b n s la ll lc ma ml mc hs w
  · have c0 := print_cells 4 b n s la ll lc ma ml mc w 0 (.int .i64 4) rfl
    go_enter Tryd.func15, Tryd.ntmps15
    go_wp2_with fail
    go_ret
    exact ⟨rfl, ((Below.refl _ _).alloc (Nat.le_refl _) _)⟩
  · have c0 := print_cells 5 b n s la ll lc ma ml mc w 0 (.int .i64 5) rfl
    go_enter Tryd.func15, Tryd.ntmps15
    go_wp2_with fail
    go_ret
    exact ⟨rfl, ((Below.refl _ _).alloc (Nat.le_refl _) _)⟩

set_option maxHeartbeats 2000000 in
theorem r4Print_all (k : Int) (b : Bool) (n : Int) (s : ByteArray) (la : Option Addr) (ll lc : Nat) (ma : Option Addr) (ml mc : Nat) (hk0 : 0 ≤ k) (hk5 : k ≤ 5) (hs : s.size ≤ 1000000000) (h0 : -9223372036854775808 ≤ n) (h1 : n ≤ 9223372036854775807) (w : World) :
    Calls Tryd.prog 16 #[.agg #[.int .i64 k, .bool b, .int .i64 n, .string s, .slice la ll lc, .slice ma ml mc]] w fun e w' => e = .returned (.string (printB k b n s)) ∧ Below w.heap.size w w' := by
  rcases (by omega : k = 0 ∨ k = 1 ∨ k = 2 ∨ k = 3 ∨ k = 4 ∨ k = 5) with rfl | rfl | rfl | rfl | rfl | rfl
  · have c0 := print_cells 0 b n s la ll lc ma ml mc w 0 (.int .i64 0) rfl
    go_enter Tryd.func16, Tryd.ntmps16
    go_wp2_with fail
    go_ret
    exact ⟨rfl, ((Below.refl _ _).alloc (Nat.le_refl _) _)⟩
  · have c0 := print_cells 1 b n s la ll lc ma ml mc w 0 (.int .i64 1) rfl
    have c1 := print_cells 1 b n s la ll lc ma ml mc w 1 (.bool b) rfl
    cases b with
    | true =>
      go_enter Tryd.func16, Tryd.ntmps16
      go_wp2_with fail
      go_ret
      exact ⟨rfl, ((Below.refl _ _).alloc (Nat.le_refl _) _)⟩
    | false =>
      go_enter Tryd.func16, Tryd.ntmps16
      go_wp2_with fail
      go_ret
      exact ⟨rfl, ((Below.refl _ _).alloc (Nat.le_refl _) _)⟩
  · have c0 := print_cells 2 b n s la ll lc ma ml mc w 0 (.int .i64 2) rfl
    have c2 := print_cells 2 b n s la ll lc ma ml mc w 2 (.int .i64 n) rfl
    go_enter Tryd.func16, Tryd.ntmps16
    go_wp2_with (go_at_call 36; refine (r4Digits_any n h0 h1 _).mono ?_; rintro e w2 ⟨rfl, hb⟩)
    go_ret
    exact ⟨rfl, ((Below.refl _ _).alloc (Nat.le_refl _) _).trans (hb.mono (by simp))⟩
  · have c0 := print_cells 3 b n s la ll lc ma ml mc w 0 (.int .i64 3) rfl
    have c3 := print_cells 3 b n s la ll lc ma ml mc w 3 (.string s) rfl
    cases hb : bareL s.data.toList with
    | true =>
      have HB := Lib.hid hb
      have HX : Hid (printB 3 b n s = s) := by show wordB s = s; rw [wordB, if_pos hb]
      clear hb
      go_enter Tryd.func16, Tryd.ntmps16
      go_wp2_with (go_at_call 14; refine (r4Bare_any s (by omega) _).mono ?_; rintro e w2 ⟨he, hw⟩; rw [HB.out] at he; have hw2 := hw.symm; subst he hw2)
      go_ret
      exact ⟨congrArg (fun x => Ending.returned (.string x)) HX.out.symm, ((Below.refl _ _).alloc (Nat.le_refl _) _)⟩
    | false =>
      have HB := Lib.hid hb
      have HX : Hid (printB 3 b n s = ⟨(quoteL s.data.toList).toArray⟩) := by show wordB s = _; rw [wordB, if_neg (by rw [hb]; decide)]
      clear hb
      go_enter Tryd.func16, Tryd.ntmps16
      go_wp2_with (first
        | (go_at_call 14; refine (r4Bare_any s (by omega) _).mono ?_; rintro e w2 ⟨he, hw⟩; rw [HB.out] at he; have hw2 := hw.symm; subst he hw2)
        | (go_at_call 21; refine (r4Quote_any s hs _).mono ?_; rintro e w3 ⟨rfl, hw⟩; have hw2 := hw.symm; subst hw2))
      go_ret
      exact ⟨congrArg (fun x => Ending.returned (.string x)) HX.out.symm, ((Below.refl _ _).alloc (Nat.le_refl _) _)⟩
  · have c0 := print_cells 4 b n s la ll lc ma ml mc w 0 (.int .i64 4) rfl
    go_enter Tryd.func16, Tryd.ntmps16
    go_wp2_with fail
    go_ret
    exact ⟨rfl, ((Below.refl _ _).alloc (Nat.le_refl _) _)⟩
  · have c0 := print_cells 5 b n s la ll lc ma ml mc w 0 (.int .i64 5) rfl
    go_enter Tryd.func16, Tryd.ntmps16
    go_wp2_with fail
    go_ret
    exact ⟨rfl, ((Below.refl _ _).alloc (Nat.le_refl _) _)⟩

set_option maxHeartbeats 2000000 in
theorem cText_all (k : Int) (b : Bool) (n : Int) (s : ByteArray) (la : Option Addr) (ll lc : Nat) (ma : Option Addr) (ml mc : Nat) (hk0 : 0 ≤ k) (hk5 : k ≤ 5) (hs : s.size ≤ 1000000000000) (h0 : -9223372036854775808 ≤ n) (h1 : n ≤ 9223372036854775807) (w : World) (hp : Pow10 w) :
    Calls Tryd.prog 17 #[.agg #[.int .i64 k, .bool b, .int .i64 n, .string s, .slice la ll lc, .slice ma ml mc]] w fun e w' => e = .returned (.string (saidB k b n s)) ∧ Below w.heap.size w w' := by
  have c0 := print_cells k b n s la ll lc ma ml mc w 0 (.int .i64 k) rfl
  have c1 := print_cells k b n s la ll lc ma ml mc w 1 (.bool b) rfl
  have c2 := print_cells k b n s la ll lc ma ml mc w 2 (.int .i64 n) rfl
  have c3 := print_cells k b n s la ll lc ma ml mc w 3 (.string s) rfl
  have c4 := print_cells k b n s la ll lc ma ml mc w 4 (.slice la ll lc) rfl
  have c5 := print_cells k b n s la ll lc ma ml mc w 5 (.slice ma ml mc) rfl
  have HB := Lib.hid ((Below.refl w.heap.size w).alloc (Nat.le_refl _) (.cells #[.int .i64 k, .bool b, .int .i64 n, .string s, .slice la ll lc, .slice ma ml mc] 25))
  by_cases e0 : k = 0
  · subst e0
    go_enter Tryd.func17, Tryd.ntmps17
    go_wp2_with fail
    go_ret
    exact ⟨rfl, HB.out⟩
  by_cases e3 : k = 3
  · subst e3
    go_enter Tryd.func17, Tryd.ntmps17
    go_wp2_with fail
    go_ret
    exact ⟨rfl, HB.out⟩
  have HX : Hid (saidB k b n s = printB k b n s) := by show _ = _; rw [saidB, if_neg e0, if_neg e3]
  have q0 : (k == 0) = false := by rw [beq_eq_false_iff_ne]; omega
  have q3 : (k == 3) = false := by rw [beq_eq_false_iff_ne]; omega
  have HP : Hid (Pow10 (w.alloc (.cells #[.int .i64 k, .bool b, .int .i64 n, .string s, .slice la ll lc, .slice ma ml mc] 25))) := hp.below HB.out
  clear hp
  go_enter Tryd.func17, Tryd.ntmps17
  go_wp2_with (go_at_call 15; refine (cPrint_all k b n s la ll lc ma ml mc hk0 hk5 hs h0 h1 _ HP.out).mono ?_; rintro e w2 ⟨rfl, hb⟩)
  go_ret
  exact ⟨congrArg (fun x => Ending.returned (.string x)) HX.out.symm, HB.out.trans (hb.mono (by simp))⟩

set_option maxHeartbeats 2000000 in
theorem r4Text_all (k : Int) (b : Bool) (n : Int) (s : ByteArray) (la : Option Addr) (ll lc : Nat) (ma : Option Addr) (ml mc : Nat) (hk0 : 0 ≤ k) (hk5 : k ≤ 5) (hs : s.size ≤ 1000000000) (h0 : -9223372036854775808 ≤ n) (h1 : n ≤ 9223372036854775807) (w : World) :
    Calls Tryd.prog 18 #[.agg #[.int .i64 k, .bool b, .int .i64 n, .string s, .slice la ll lc, .slice ma ml mc]] w fun e w' => e = .returned (.string (saidB k b n s)) ∧ Below w.heap.size w w' := by
  have c0 := print_cells k b n s la ll lc ma ml mc w 0 (.int .i64 k) rfl
  have c1 := print_cells k b n s la ll lc ma ml mc w 1 (.bool b) rfl
  have c2 := print_cells k b n s la ll lc ma ml mc w 2 (.int .i64 n) rfl
  have c3 := print_cells k b n s la ll lc ma ml mc w 3 (.string s) rfl
  have c4 := print_cells k b n s la ll lc ma ml mc w 4 (.slice la ll lc) rfl
  have c5 := print_cells k b n s la ll lc ma ml mc w 5 (.slice ma ml mc) rfl
  have HB := Lib.hid ((Below.refl w.heap.size w).alloc (Nat.le_refl _) (.cells #[.int .i64 k, .bool b, .int .i64 n, .string s, .slice la ll lc, .slice ma ml mc] 25))
  by_cases e0 : k = 0
  · subst e0
    go_enter Tryd.func18, Tryd.ntmps18
    go_wp2_with fail
    go_ret
    exact ⟨rfl, HB.out⟩
  by_cases e3 : k = 3
  · subst e3
    go_enter Tryd.func18, Tryd.ntmps18
    go_wp2_with fail
    go_ret
    exact ⟨rfl, HB.out⟩
  have HX : Hid (saidB k b n s = printB k b n s) := by show _ = _; rw [saidB, if_neg e0, if_neg e3]
  have q0 : (k == 0) = false := by rw [beq_eq_false_iff_ne]; omega
  have q3 : (k == 3) = false := by rw [beq_eq_false_iff_ne]; omega
  go_enter Tryd.func18, Tryd.ntmps18
  go_wp2_with (go_at_call 16; refine (r4Print_all k b n s la ll lc ma ml mc hk0 hk5 hs h0 h1 _).mono ?_; rintro e w2 ⟨rfl, hb⟩)
  go_ret
  exact ⟨congrArg (fun x => Ending.returned (.string x)) HX.out.symm, HB.out.trans (hb.mono (by simp))⟩

end Go.Proofs.YtfadijofnaepnaaDoor
