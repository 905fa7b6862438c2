/-
  Package scalar's Print and Text of a whole number.
-/
import Derived.Test.YtfadijofnaepnaaDoorNumP
import Derived.Lib.LaidTab
set_option linter.unusedVariables false
set_option linter.unusedSimpArgs false
namespace Go.Proofs.YtfadijofnaepnaaDoor
open Go.RowKit

/-- The table of powers of ten, as the library lays it. -/
def Pow10 (w : World) : Prop := Lib.TabIs Tryd.prog w "internal/strconv.uint64pow10" .u64 Lib.pow10Tab

theorem Tryd.gPow : Tryd.prog.globalNamed "internal/strconv.uint64pow10" = some 2 := by kernel_rfl
theorem Pow10.below {w w' : World} (h : Pow10 w) (hb : Below w.heap.size w w') : Pow10 w' := by
  have hg := Tryd.gPow
  unfold Pow10 Lib.TabIs World.var? at h ⊢
  rw [hg] at h ⊢
  simp only [Option.bind_some] at h ⊢
  have hlt : 2 < w.heap.size := by
    rcases Nat.lt_or_ge 2 w.heap.size with h' | h'
    · exact h'
    · rw [Array.getElem?_eq_none h'] at h; cases h
  rw [hb.block 2 hlt]
  exact h

theorem below_fmt (w : World) (k : Nat) (os : Array Obj) : Below w.heap.size w (Sort.grow (w.drewN k) os) :=
  ⟨rfl, rfl, rfl, by simp [Sort.grow], fun i hi => by
    show ((w.drewN k).heap ++ os)[i]? = _
    rw [Array.getElem?_append_left (by show i < w.heap.size; omega)]
    rfl⟩

set_option maxHeartbeats 1000000 in
theorem cPrint_int (b : Bool) (n : Int) (s : ByteArray) (la : Option Addr) (ll lc : Nat) (ma : Option Addr) (ml mc : Nat) (h0 : -9223372036854775808 ≤ n) (h1 : n ≤ 9223372036854775807) (w : World) (hp : Pow10 w) :
    Calls Tryd.prog 15 #[.agg #[.int .i64 2, .bool b, .int .i64 n, .string s, .slice la ll lc, .slice ma ml mc]] w fun e w' => e = .returned (.string ⟨(Lib.itoa n).toArray⟩) ∧ Below w.heap.size w w' := by
  have hx : ∀ j v, #[Value.int .i64 2, .bool b, .int .i64 n, .string s, .slice la ll lc, .slice ma ml mc][j]? = some v → (w.alloc (.cells #[.int .i64 2, .bool b, .int .i64 n, .string s, .slice la ll lc, .slice ma ml mc] 25)).cell? ⟨w.heap.size, j, none⟩ = some v := fun j v h => by rw [World.cell?_alloc_new]; exact h
  have c0 := hx 0 _ rfl
  have c2 := hx 2 _ rfl
  have HP := Lib.hid (hp.below ((Below.refl w.heap.size w).alloc (Nat.le_refl _) (.cells #[.int .i64 2, .bool b, .int .i64 n, .string s, .slice la ll lc, .slice ma ml mc] 25)))
  clear hx hp
  go_enter Tryd.func15, Tryd.ntmps15
  go_wp2_with (go_at_call 34; refine (Tryd.strconv_FormatInt_10 _ h0 h1 _ HP.out).mono ?_; rintro e w1 ⟨rfl, k, os, hw⟩
               have HB : Hid (Below (w.alloc (.cells #[.int .i64 2, .bool b, .int .i64 n, .string s, .slice la ll lc, .slice ma ml mc] 25)).heap.size (w.alloc (.cells #[.int .i64 2, .bool b, .int .i64 n, .string s, .slice la ll lc, .slice ma ml mc] 25)) w1) := by
                 rw [hw]
                 exact below_fmt _ _ _
               clear hw)
  go_ret
  exact ⟨rfl, ((Below.refl _ _).alloc (Nat.le_refl _) _).trans (HB.out.mono (by simp))⟩

set_option maxHeartbeats 1000000 in
theorem cText_int (b : Bool) (n : Int) (s : ByteArray) (la : Option Addr) (ll lc : Nat) (ma : Option Addr) (ml mc : Nat) (h0 : -9223372036854775808 ≤ n) (h1 : n ≤ 9223372036854775807) (w : World) (hp : Pow10 w) :
    Calls Tryd.prog 17 #[.agg #[.int .i64 2, .bool b, .int .i64 n, .string s, .slice la ll lc, .slice ma ml mc]] w fun e w' => e = .returned (.string ⟨(Lib.itoa n).toArray⟩) ∧ Below w.heap.size w w' := by
  have hx : ∀ j v, #[Value.int .i64 2, .bool b, .int .i64 n, .string s, .slice la ll lc, .slice ma ml mc][j]? = some v → (w.alloc (.cells #[.int .i64 2, .bool b, .int .i64 n, .string s, .slice la ll lc, .slice ma ml mc] 25)).cell? ⟨w.heap.size, j, none⟩ = some v := fun j v h => by rw [World.cell?_alloc_new]; exact h
  have c0 := hx 0 _ rfl
  have c1 := hx 1 _ rfl
  have c2 := hx 2 _ rfl
  have c3 := hx 3 _ rfl
  have c4 := hx 4 _ rfl
  have c5 := hx 5 _ rfl
  have HP := Lib.hid (hp.below ((Below.refl w.heap.size w).alloc (Nat.le_refl _) (.cells #[.int .i64 2, .bool b, .int .i64 n, .string s, .slice la ll lc, .slice ma ml mc] 25)))
  clear hx hp
  go_enter Tryd.func17, Tryd.ntmps17
  go_wp2_with (go_at_call 15; refine (cPrint_int _ n _ _ _ _ _ _ _ h0 h1 _ HP.out).mono ?_; rintro e w1 ⟨rfl, hb⟩
               have HB := Lib.hid hb
               clear hb)
  go_ret
  exact ⟨rfl, ((Below.refl _ _).alloc (Nat.le_refl _) _).trans (HB.out.mono (by simp))⟩

/-- A whole number's word. -/
theorem itoa_pos {n : Int} (h : 0 ≤ n) : Lib.itoa n = Lib.decDigits n.toNat := by rw [Lib.itoa, if_neg (by omega)]
theorem itoa_neg {n : Int} (h : n < 0) : Lib.itoa n = 45 :: Lib.decDigits n.natAbs := by rw [Lib.itoa, if_pos h]

end Go.Proofs.YtfadijofnaepnaaDoor
