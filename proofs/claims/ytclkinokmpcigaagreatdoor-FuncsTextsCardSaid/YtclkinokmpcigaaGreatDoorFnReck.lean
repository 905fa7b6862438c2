/-
  Package funcs' outcome and reckoned.
-/
import Derived.Test.YtclkinokmpcigaaGreatDoorFnPlus
import Derived.Test.YtclkinokmpcigaaGreatDoorBox
import Derived.Test.YtclkinokmpcigaaGreatDoorAwake
set_option linter.unusedVariables false
set_option linter.unusedSimpArgs false
namespace Go.Proofs.YtclkinokmpcigaaGreatDoor
open Go.RowKit

theorem outI_yes {n : Int} {f : FuncId} {args : Array Value} {w : World} (hi : inI n) (h : Calls Tryz.prog f args w fun e w' => outI n e w w') : Calls Tryz.prog f args w fun e w' => e = .returned (.tuple #[.int .i64 n, .bool true]) ∧ Below w.heap.size w w' := h.mono fun e w' h => by
  rcases h with ⟨⟨h1, h2⟩ | ⟨h1, h2⟩, hb⟩
  · exact ⟨h2, hb⟩
  · exact absurd hi h1
theorem outI_no {n : Int} {f : FuncId} {args : Array Value} {w : World} (hi : ¬ inI n) (h : Calls Tryz.prog f args w fun e w' => outI n e w w') : Calls Tryz.prog f args w fun e w' => e = .returned (.tuple #[.int .i64 0, .bool false]) ∧ Below w.heap.size w w' := h.mono fun e w' h => by
  rcases h with ⟨⟨h1, h2⟩ | ⟨h1, h2⟩, hb⟩
  · exact absurd h1 hi
  · exact ⟨h2, hb⟩
/-- A whole number's cells. -/
abbrev cI (n : Int) : Array Value := #[.int .i64 2, .bool false, .int .i64 n, .string ⟨#[]⟩, .slice none 0 0, .slice none 0 0]
/-- What reckoning hands back: the number, or that it is too far out. -/
def recI (n : Int) (e : Ending) (w w' : World) : Prop := (inI n ∧ e = .returned (.tuple #[.agg (cI n), .int .i64 0]) ∨ ¬ inI n ∧ e = .returned (.tuple #[.agg zeroV, .int .i64 9])) ∧ Below w.heap.size w w'

set_option maxRecDepth 100000 in
theorem foutcome_add (a b : Int) (ha : inI a) (hb : inI b) (w : World) : Calls Tryz.prog 57 #[.string ⟨#[97, 100, 100]⟩, .int .i64 a, .int .i64 b] w fun e w' => outI (a + b) e w w' := by
  by_cases hi : inI (a + b)
  · have P1 := Lib.hid (fun w1 => outI_yes hi (fplus_any a b ha hb w1))
    have HI := Lib.hid hi
    clear hi
    go_enter Tryz.func57, Tryz.ntmps57
    go_wp2_with (refine (P1.out _).mono ?_; rintro e w1 ⟨rfl, hb⟩)
    go_ret2
    exact ⟨.inl ⟨HI.out, rfl⟩, hb⟩
  · have P1 := Lib.hid (fun w1 => outI_no hi (fplus_any a b ha hb w1))
    have HI := Lib.hid hi
    clear hi
    go_enter Tryz.func57, Tryz.ntmps57
    go_wp2_with (refine (P1.out _).mono ?_; rintro e w1 ⟨rfl, hb⟩)
    go_ret2
    exact ⟨.inr ⟨HI.out, rfl⟩, hb⟩

set_option maxRecDepth 100000 in
theorem foutcome_sub (a b : Int) (ha : inI a) (hb : inI b) (w : World) : Calls Tryz.prog 57 #[.string ⟨#[115, 117, 98]⟩, .int .i64 a, .int .i64 b] w fun e w' => outI (a - b) e w w' := by
  by_cases hi : inI (a - b)
  · have P1 := Lib.hid (fun w1 => outI_yes hi (fminus_any a b ha hb w1))
    have HI := Lib.hid hi
    clear hi
    go_enter Tryz.func57, Tryz.ntmps57
    go_wp2_with (refine (P1.out _).mono ?_; rintro e w1 ⟨rfl, hb⟩)
    go_ret2
    exact ⟨.inl ⟨HI.out, rfl⟩, hb⟩
  · have P1 := Lib.hid (fun w1 => outI_no hi (fminus_any a b ha hb w1))
    have HI := Lib.hid hi
    clear hi
    go_enter Tryz.func57, Tryz.ntmps57
    go_wp2_with (refine (P1.out _).mono ?_; rintro e w1 ⟨rfl, hb⟩)
    go_ret2
    exact ⟨.inr ⟨HI.out, rfl⟩, hb⟩

set_option maxRecDepth 100000 in
theorem foutcome_mul (a b : Int) (ha : inI a) (hb : inI b) (w : World) : Calls Tryz.prog 57 #[.string ⟨#[109, 117, 108]⟩, .int .i64 a, .int .i64 b] w fun e w' => outI (a * b) e w w' := by
  by_cases hi : inI (a * b)
  · have P1 := Lib.hid (fun w1 => outI_yes hi (ftimes_any a b ha hb w1))
    have HI := Lib.hid hi
    clear hi
    go_enter Tryz.func57, Tryz.ntmps57
    go_wp2_with (refine (P1.out _).mono ?_; rintro e w1 ⟨rfl, hb⟩)
    go_ret2
    exact ⟨.inl ⟨HI.out, rfl⟩, hb⟩
  · have P1 := Lib.hid (fun w1 => outI_no hi (ftimes_any a b ha hb w1))
    have HI := Lib.hid hi
    clear hi
    go_enter Tryz.func57, Tryz.ntmps57
    go_wp2_with (refine (P1.out _).mono ?_; rintro e w1 ⟨rfl, hb⟩)
    go_ret2
    exact ⟨.inr ⟨HI.out, rfl⟩, hb⟩

set_option maxRecDepth 100000 in
theorem freckoned_any (name : ByteArray) (a b n : Int) (hO : ∀ w1, Calls Tryz.prog 57 #[.string name, .int .i64 a, .int .i64 b] w1 fun e w' => outI n e w1 w') (w : World) :
    Calls Tryz.prog 25 #[.string name, .agg (cI a), .agg (cI b)] w fun e w' => recI n e w w' := by
  obtain ⟨dd, hu, hdd⟩ := Tryz.structV
  have DD := Lib.hid hdd
  have HU := Lib.hid hu
  clear hdd hu
  by_cases hi : inI n
  · have P1 := Lib.hid (fun w1 => outI_yes hi (hO w1))
    have HI := Lib.hid hi
    clear hi hO
    go_enter Tryz.func25, Tryz.ntmps25
    have hb3 : Below w.heap.size w (((w.alloc (.cells (cI a) 27)).alloc (.cells (cI b) 27)).alloc (.cells zeroV 27)) := (((Below.refl _ _).alloc (Nat.le_refl _) _).alloc (by simp) _).alloc (by simp; omega) _
    have b3 := Box6.new ((w.alloc (.cells (cI a) 27)).alloc (.cells (cI b) 27)) zeroV 27
    have t3 := Thaw.new ((w.alloc (.cells (cI a) 27)).alloc (.cells (cI b) 27)) zeroV 27
    have e3 : ((w.alloc (.cells (cI a) 27)).alloc (.cells (cI b) 27)).heap.size = w.heap.size + 1 + 1 := by simp
    have es : (((w.alloc (.cells (cI a) 27)).alloc (.cells (cI b) 27)).alloc (.cells zeroV 27)).heap.size = w.heap.size + 1 + 1 + 1 := by simp
    rw [e3] at b3 t3
    have HB3 := Lib.hid hb3
    have B3 := Lib.hid b3
    have T3 := Lib.hid t3
    have ES := Lib.hid es
    clear hb3 b3 t3 e3 es
    go_wp2_with (first
      | (go_at_call 57
         refine (P1.out _).mono ?_
         rintro e w1 ⟨rfl, hb⟩
         have HB1 := Lib.hid hb
         clear hb)
      | (go_at_call 10
         refine (tInt_any n _).mono ?_
         rintro e w2 ⟨rfl, hb⟩
         have HB2 := Lib.hid (HB1.out.trans (hb.mono HB1.out.size))
         obtain ⟨c0, c1, c2, c3, c4, c5⟩ := (B3.out.later HB2.out (by rw [ES.out]; omega)).six
         obtain ⟨f0, f1, f2, f3, f4, f5⟩ := (T3.out.later HB2.out (by rw [ES.out]; omega)).six
         clear hb))
    exact ret_cells_tmp w2 (w.heap.size + 1 + 1) (cI n).toList rfl Tryz.results25 rfl rfl DD.out HU.out Tryz.sizeV ((B3.out.later HB2.out (by rw [ES.out]; omega)).cells rfl) ⟨.inl ⟨HI.out, rfl⟩, setRow_below _ (by omega) _ _ _ (HB3.out.trans (HB2.out.mono HB3.out.size))⟩
  · have P1 := Lib.hid (fun w1 => outI_no hi (hO w1))
    have HI := Lib.hid hi
    clear hi hO
    go_enter Tryz.func25, Tryz.ntmps25
    have hb3 : Below w.heap.size w (((w.alloc (.cells (cI a) 27)).alloc (.cells (cI b) 27)).alloc (.cells zeroV 27)) := (((Below.refl _ _).alloc (Nat.le_refl _) _).alloc (by simp) _).alloc (by simp; omega) _
    have b3 := Box6.new ((w.alloc (.cells (cI a) 27)).alloc (.cells (cI b) 27)) zeroV 27
    have t3 := Thaw.new ((w.alloc (.cells (cI a) 27)).alloc (.cells (cI b) 27)) zeroV 27
    have e3 : ((w.alloc (.cells (cI a) 27)).alloc (.cells (cI b) 27)).heap.size = w.heap.size + 1 + 1 := by simp
    have es : (((w.alloc (.cells (cI a) 27)).alloc (.cells (cI b) 27)).alloc (.cells zeroV 27)).heap.size = w.heap.size + 1 + 1 + 1 := by simp
    rw [e3] at b3 t3
    have HB3 := Lib.hid hb3
    have B3 := Lib.hid b3
    have T3 := Lib.hid t3
    have ES := Lib.hid es
    clear hb3 b3 t3 e3 es
    go_wp2_with (go_at_call 57
                 refine (P1.out _).mono ?_
                 rintro e w1 ⟨rfl, hb⟩
                 have HB1 := Lib.hid hb
                 obtain ⟨c0, c1, c2, c3, c4, c5⟩ := (B3.out.later HB1.out (by rw [ES.out]; omega)).six
                 obtain ⟨f0, f1, f2, f3, f4, f5⟩ := (T3.out.later HB1.out (by rw [ES.out]; omega)).six
                 clear hb)
    exact ret_cells_tmp w1 (w.heap.size + 1 + 1) zeroV.toList rfl Tryz.results25 rfl rfl DD.out HU.out Tryz.sizeV ((B3.out.later HB1.out (by rw [ES.out]; omega)).cells rfl) ⟨.inr ⟨HI.out, rfl⟩, setRow_below _ (by omega) _ _ _ (HB3.out.trans (HB1.out.mono HB3.out.size))⟩

end Go.Proofs.YtclkinokmpcigaaGreatDoor
