/-
  Package scalar's Print of a text, and the law's awake.
-/
import Derived.Test.YtfadijofnaepnaaDoorCParse
set_option linter.unusedVariables false
set_option linter.unusedSimpArgs false
namespace Go.Proofs.YtfadijofnaepnaaDoor
open Go.RowKit

set_option maxHeartbeats 1000000 in
theorem cPrint_str (b : Bool) (n : Int) (s : ByteArray) (la : Option Addr) (ll lc : Nat) (ma : Option Addr) (ml mc : Nat) (hs : s.size ≤ 1000000000000) (w : World) :
    Calls Tryd.prog 15 #[.agg #[.int .i64 3, .bool b, .int .i64 n, .string s, .slice la ll lc, .slice ma ml mc]] w fun e w' => e = .returned (.string (wordB s)) ∧ Below w.heap.size w w' := by
  have hx : ∀ j v, #[Value.int .i64 3, .bool b, .int .i64 n, .string s, .slice la ll lc, .slice ma ml mc][j]? = some v → (w.alloc (.cells #[.int .i64 3, .bool b, .int .i64 n, .string s, .slice la ll lc, .slice ma ml mc] 25)).cell? ⟨w.heap.size, j, none⟩ = some v := fun j v h => by rw [World.cell?_alloc_new]; exact h
  have c0 := hx 0 _ rfl
  have c3 := hx 3 _ rfl
  clear hx
  go_enter Tryd.func15, Tryd.ntmps15
  go_wp2_with (go_at_call 35; refine (cword_any _ hs _).mono ?_; rintro e w1 ⟨rfl, hb⟩
               have HB := Lib.hid hb
               clear hb)
  go_ret
  exact ⟨rfl, ((Below.refl _ _).alloc (Nat.le_refl _) _).trans (HB.out.mono (by simp))⟩

theorem word_ab : wordB ⟨#[97, 32, 98]⟩ = ⟨#[34, 97, 32, 98, 34]⟩ := by
  rw [wordB, if_neg (by decide)]
  rfl
theorem word_v : wordB ⟨#[118, 49, 46, 50, 47, 120]⟩ = ⟨#[118, 49, 46, 50, 47, 120]⟩ := by
  rw [wordB, if_pos (by decide)]

set_option maxRecDepth 100000 in
set_option maxHeartbeats 1000000 in
theorem law4awake_any (w : World) : Calls Tryd.prog 9 #[] w fun e w' => e = .returned (.bool true) ∧ Below w.heap.size w w' := by
  have P7 := Lib.hid (cParse_int ⟨#[48, 48, 55]⟩ (by decide) (by decide) (by decide) 7 (by decide))
  go_enter Tryd.func9, Tryd.ntmps9
  go_wp2_with (first
    | (go_at_call 10; refine (P7.out _).mono ?_; rintro e w1 ⟨rfl, hb⟩
       have HB1 := Lib.hid hb
       have hx : ∀ j v, (six 2 false 7 ⟨#[]⟩)[j]? = some v → (w1.alloc (.cells (six 2 false 7 ⟨#[]⟩) 25)).cell? ⟨w1.heap.size, j, none⟩ = some v := fun j v h => by rw [World.cell?_alloc_new]; exact h
       have c0 := hx 0 _ rfl
       have c2 := hx 2 _ rfl
       have HC1 : Hid (Below w.heap.size w (w1.alloc (.cells (six 2 false 7 ⟨#[]⟩) 25))) := HB1.out.alloc HB1.out.size _
       clear hx hb)
    | ((with_reducible refine (tStr_flat ⟨#[97, 32, 98]⟩ _).mono ?_); rintro e w2 ⟨rfl, hb⟩
       have HC2 := Lib.hid (HC1.out.trans (hb.mono HC1.out.size))
       clear hb)
    | ((with_reducible refine (cPrint_str false 0 ⟨#[97, 32, 98]⟩ none 0 0 none 0 0 (by decide) _).mono ?_); rintro e w3 ⟨he, hb⟩
       rw [word_ab] at he
       subst he
       have HC3 := Lib.hid (HC2.out.trans (hb.mono HC2.out.size))
       clear hb)
    | ((with_reducible refine (tStr_flat ⟨#[118, 49, 46, 50, 47, 120]⟩ _).mono ?_); rintro e w4 ⟨rfl, hb⟩
       have HC4 := Lib.hid (HC3.out.trans (hb.mono HC3.out.size))
       clear hb)
    | ((with_reducible refine (cPrint_str false 0 ⟨#[118, 49, 46, 50, 47, 120]⟩ none 0 0 none 0 0 (by decide) _).mono ?_); rintro e w5 ⟨he, hb⟩
       rw [word_v] at he
       subst he
       have HC5 := Lib.hid (HC4.out.trans (hb.mono HC4.out.size))
       clear hb))
  go_ret
  exact ⟨rfl, HC5.out⟩

end Go.Proofs.YtfadijofnaepnaaDoor
