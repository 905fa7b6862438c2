/-
  Package scalar's Text, of a small whole number and of a text.
-/
import Derived.Test.YtclkinokmpcigaaGreatDoorBuild
import Derived.Test.YtclkinokmpcigaaGreatDoorMakes
set_option linter.unusedVariables false
set_option linter.unusedSimpArgs false
namespace Go.Proofs.YtclkinokmpcigaaGreatDoor
open Go.RowKit

set_option maxHeartbeats 1000000 in
theorem cPrint_small (b : Bool) (n : Nat) (hn : n < 100) (s : ByteArray) (la : Option Addr) (ll lc : Nat) (ma : Option Addr) (ml mc : Nat) (w : World) :
    Calls Tryz.prog 50 #[.agg #[.int .i64 2, .bool b, .int .i64 n, .string s, .slice la ll lc, .slice ma ml mc]] w fun e w' => e = .returned (.string ⟨(Lib.decDigits n).toArray⟩) ∧ Below w.heap.size w w' := by
  have hx : ∀ j v, #[Value.int .i64 2, .bool b, .int .i64 n, .string s, .slice la ll lc, .slice ma ml mc][j]? = some v → (w.alloc (.cells #[.int .i64 2, .bool b, .int .i64 n, .string s, .slice la ll lc, .slice ma ml mc] 27)).cell? ⟨w.heap.size, j, none⟩ = some v := fun j v h => by rw [World.cell?_alloc_new]; exact h
  have c0 := hx 0 _ rfl
  have c2 := hx 2 _ rfl
  have HN := Lib.hid hn
  clear hx hn
  go_enter Tryz.func50, Tryz.ntmps50
  go_wp2_with (go_at_call 88; refine (Tryz.strconv_FormatInt_10_small n HN.out _).mono ?_; rintro e w1 ⟨rfl, rfl⟩)
  go_ret
  exact ⟨rfl, (Below.refl _ _).alloc (Nat.le_refl _) _⟩

set_option maxHeartbeats 1000000 in
theorem cText_small (b : Bool) (n : Nat) (hn : n < 100) (s : ByteArray) (la : Option Addr) (ll lc : Nat) (ma : Option Addr) (ml mc : Nat) (w : World) :
    Calls Tryz.prog 20 #[.agg #[.int .i64 2, .bool b, .int .i64 n, .string s, .slice la ll lc, .slice ma ml mc]] w fun e w' => e = .returned (.string ⟨(Lib.decDigits n).toArray⟩) ∧ Below w.heap.size w w' := by
  have hx : ∀ j v, #[Value.int .i64 2, .bool b, .int .i64 n, .string s, .slice la ll lc, .slice ma ml mc][j]? = some v → (w.alloc (.cells #[.int .i64 2, .bool b, .int .i64 n, .string s, .slice la ll lc, .slice ma ml mc] 27)).cell? ⟨w.heap.size, j, none⟩ = some v := fun j v h => by rw [World.cell?_alloc_new]; exact h
  have c0 := hx 0 _ rfl
  have c1 := hx 1 _ rfl
  have c2 := hx 2 _ rfl
  have c3 := hx 3 _ rfl
  have c4 := hx 4 _ rfl
  have c5 := hx 5 _ rfl
  have HN := Lib.hid hn
  clear hx hn
  go_enter Tryz.func20, Tryz.ntmps20
  go_wp2_with (go_at_call 50; refine (cPrint_small _ n HN.out _ _ _ _ _ _ _ _).mono ?_; rintro e w1 ⟨rfl, hb⟩
               have HB := Lib.hid hb
               clear hb)
  go_ret
  exact ⟨rfl, ((Below.refl _ _).alloc (Nat.le_refl _) _).trans (HB.out.mono (by simp))⟩

set_option maxHeartbeats 1000000 in
theorem cText_text (b : Bool) (n : Int) (s : ByteArray) (la : Option Addr) (ll lc : Nat) (ma : Option Addr) (ml mc : Nat) (w : World) :
    Calls Tryz.prog 20 #[.agg #[.int .i64 3, .bool b, .int .i64 n, .string s, .slice la ll lc, .slice ma ml mc]] w fun e w' => e = .returned (.string s) ∧ Below w.heap.size w w' := by
  have hx : ∀ j v, #[Value.int .i64 3, .bool b, .int .i64 n, .string s, .slice la ll lc, .slice ma ml mc][j]? = some v → (w.alloc (.cells #[.int .i64 3, .bool b, .int .i64 n, .string s, .slice la ll lc, .slice ma ml mc] 27)).cell? ⟨w.heap.size, j, none⟩ = some v := fun j v h => by rw [World.cell?_alloc_new]; exact h
  have c0 := hx 0 _ rfl
  have c3 := hx 3 _ rfl
  clear hx
  go_enter Tryz.func20, Tryz.ntmps20
  go_wp2_with fail
  go_ret
  exact ⟨rfl, (Below.refl _ _).alloc (Nat.le_refl _) _⟩

/-- A value's text, wherever it lies. -/
def SaidOK (t : T) (s : ByteArray) : Prop := ∀ {w0 : World} {R : Nat → Prop} {cs : Array Value} (h : Lies w0 R t cs) (w : World), Calls Tryz.prog 20 #[.agg cs] w fun e w' => e = .returned (.string s) ∧ Below w.heap.size w w'
theorem said_small (n : Nat) (hn : n < 100) : SaidOK (.mk 2 false n ⟨#[]⟩ [] []) ⟨(Lib.decDigits n).toArray⟩ := fun h w => by
  cases h
  exact cText_small _ n hn _ _ _ _ _ _ _ w
theorem said_text (s : ByteArray) : SaidOK (.mk 3 false 0 s [] []) s := fun h w => by
  cases h
  exact cText_text _ _ s _ _ _ _ _ _ w

end Go.Proofs.YtclkinokmpcigaaGreatDoor
