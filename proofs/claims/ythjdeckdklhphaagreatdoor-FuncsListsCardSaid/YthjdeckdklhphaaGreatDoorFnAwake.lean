/-
  Package funcs' Call, of what the statements call; mizzenlaw08's awake.
-/
import Derived.Test.YthjdeckdklhphaaGreatDoorFnJoin
import Derived.Test.YthjdeckdklhphaaGreatDoorFnEitherM
import Derived.Test.YthjdeckdklhphaaGreatDoorAwakeM
set_option linter.unusedVariables false
set_option linter.unusedSimpArgs false
namespace Go.Proofs.YthjdeckdklhphaaGreatDoor
open Go.RowKit

theorem fn_distinct : ∀ k, k < 29 → ∀ i, i < k → (fnAt i).1.data.toList ≠ (fnAt k).1.data.toList := by decide +kernel
theorem fn_first {k : Nat} (hk : k < 29) : ∀ i, i < k → (fnAt i).1 ≠ (fnAt k).1 := fun i hi e => fn_distinct k hk i hi (by rw [e])

theorem calls_rec {name : ByteArray} {k : Nat} (hk : k < 29) (he : (fnAt k).1 = name) (hlo : (fnAt k).2.1 = 2) (hhi : (fnAt k).2.2 = 2) {a b n : Int} {sb : Nat} (w : World) (hw : FnTab w) (h : TwoV w sb (.int .i64 2) (.bool false) (.int .i64 a) (.string ⟨#[]⟩) (.slice none 0 0) (.slice none 0 0) (.int .i64 2) (.bool false) (.int .i64 b) (.string ⟨#[]⟩) (.slice none 0 0) (.slice none 0 0))
    (H : ∀ w1, TwoV w1 sb (.int .i64 2) (.bool false) (.int .i64 a) (.string ⟨#[]⟩) (.slice none 0 0) (.slice none 0 0) (.int .i64 2) (.bool false) (.int .i64 b) (.string ⟨#[]⟩) (.slice none 0 0) (.slice none 0 0) → Calls Tryz.prog 16 #[.string name, .slice (some ⟨sb, 0, none⟩) 2 2] w1 fun e w' => recI n e w1 w') :
    Calls Tryz.prog 6 #[.string name, .slice (some ⟨sb, 0, none⟩) 2 2] w fun e w' => recI n e w w' := by
  refine (fCall_any name k hk he (fun i hi => by rw [← he]; exact fn_first hk i hi) (some ⟨sb, 0, none⟩) 2 2 (by rw [hlo]; decide) (by rw [hhi]; decide) (fun ds c _ => inI n ∧ ds = cI n ∧ c = 0 ∨ ¬ inI n ∧ ds = zeroV ∧ c = 9) w (fun ds c w1 w2 _ _ h => h) hw fun w1 hw1 _ => ?_).mono ?_
  · refine (H w1 (h.later hw1)).mono fun e w' ⟨h1, hb⟩ => ?_
    rcases h1 with ⟨hi, rfl⟩ | ⟨hi, rfl⟩
    · exact ⟨2, false, n, ⟨#[]⟩, none, 0, 0, none, 0, 0, 0, rfl, .inl ⟨rfl, by decide⟩, .inl ⟨hi, rfl, rfl⟩, hb⟩
    · exact ⟨0, false, 0, ⟨#[]⟩, none, 0, 0, none, 0, 0, 9, rfl, .inr ⟨by decide, rfl⟩, .inr ⟨hi, rfl, rfl⟩, hb⟩
  · rintro e w' ⟨ds, c, rfl, h1, hb⟩
    rcases h1 with ⟨hi, rfl, rfl⟩ | ⟨hi, rfl, rfl⟩
    · exact ⟨.inl ⟨hi, rfl⟩, hb⟩
    · exact ⟨.inr ⟨hi, rfl⟩, hb⟩
theorem calls_default {R1 R2 : Nat → Prop} {t y r : T} {a0 : Int} {a1 : Bool} {a2 : Int} {a3 : ByteArray} {a4 : Option Addr} {a4l a4c : Nat} {a5 : Option Addr} {a5l a5c : Nat} {b0 : Int} {b1 : Bool} {b2 : Int} {b3 : ByteArray} {b4 : Option Addr} {b4l b4c : Nat} {b5 : Option Addr} {b5l b5c : Nat} (w : World) (hw : FnTab w) (sb : Nat) (h : TwoV w sb (.int .i64 a0) (.bool a1) (.int .i64 a2) (.string a3) (.slice a4 a4l a4c) (.slice a5 a5l a5c) (.int .i64 b0) (.bool b1) (.int .i64 b2) (.string b3) (.slice b4 b4l b4c) (.slice b5 b5l b5c)) (hd : Lies w R1 y #[.int .i64 a0, .bool a1, .int .i64 a2, .string a3, .slice a4 a4l a4c, .slice a5 a5l a5c]) (hv : Lies w R2 t #[.int .i64 b0, .bool b1, .int .i64 b2, .string b3, .slice b4 b4l b4c, .slice b5 b5l b5c]) (hr : r = if trT t = true then t else y) (hs : r.str.size ≤ 65536) :
    Calls Tryz.prog 6 #[.string ⟨#[100, 101, 102, 97, 117, 108, 116]⟩, .slice (some ⟨sb, 0, none⟩) 2 2] w fun e w' => ∃ ds, e = .returned (.tuple #[.agg ds, .int .i64 0]) ∧ Lies w' (fun _ => True) r ds ∧ Below w.heap.size w w' := by
  refine (fCall_any _ 2 (by decide) rfl (fn_first (by decide)) (some ⟨sb, 0, none⟩) 2 2 (by decide) (by decide) (fun ds c w' => c = 0 ∧ Lies w' (fun b => b ≠ w.heap.size) r ds) w (fun ds c w1 w2 hs hk h => ⟨h.1, (h.2.keepB fun b hb hlt => hk b hb hlt).weaken fun b hb => hb.1⟩) hw fun w1 hw1 hlt => ?_).mono ?_
  · refine (fanswer_default w1 sb (h.later hw1) (hd.later hw1) (hv.later hw1)).mono ?_
    rintro e w' ⟨ds, rfl, hL, hb⟩
    rw [← hr] at hL
    obtain ⟨m0, m1, m2, m3, m4, m4l, m4c, m5, m5l, m5c, rfl⟩ := hL.six
    have hm : m3 = r.str := by cases hL; rfl
    exact ⟨_, _, _, _, _, _, _, _, _, _, 0, rfl, .inl ⟨rfl, by rw [hm]; exact hs⟩, ⟨rfl, hL.weaken fun b hb => by omega⟩, hb⟩
  · rintro e w' ⟨ds, c, rfl, ⟨rfl, hL⟩, hb⟩
    exact ⟨ds, rfl, hL.weaken fun _ _ => trivial, hb⟩
theorem calls_join {R : Nat → Prop} {ts : List T} {d0 : Int} {d1 : Bool} {d2 : Int} {d3 : ByteArray} {d4 : Option Addr} {d4l d4c : Nat} {d5 : Option Addr} {d5l d5c : Nat} (w : World) (hw : FnTab w) (sb : Nat) (s : ByteArray) (h : TwoV w sb (.int .i64 3) (.bool false) (.int .i64 0) (.string s) (.slice none 0 0) (.slice none 0 0) (.int .i64 d0) (.bool d1) (.int .i64 d2) (.string d3) (.slice d4 d4l d4c) (.slice d5 d5l d5c)) (hl : Lies w R (T.listOf ts) #[.int .i64 d0, .bool d1, .int .i64 d2, .string d3, .slice d4 d4l d4c, .slice d5 d5l d5c]) (tx : Nat → ByteArray) (hT : ∀ i (h : i < ts.length), SaidOK ts[i] (tx i)) (hlen : (glueL s.data.toList tx ts.length).length ≤ 65536) (hs : s.size ≤ 65536) :
    Calls Tryz.prog 6 #[.string ⟨#[106, 111, 105, 110]⟩, .slice (some ⟨sb, 0, none⟩) 2 2] w fun e w' => e = .returned (.tuple #[.agg (cS ⟨(glueL s.data.toList tx ts.length).toArray⟩), .int .i64 0]) ∧ Below w.heap.size w w' := by
  refine (fCall_any _ 9 (by decide) rfl (fn_first (by decide)) (some ⟨sb, 0, none⟩) 2 2 (by decide) (by decide) (fun ds c w' => c = 0 ∧ ds = cS ⟨(glueL s.data.toList tx ts.length).toArray⟩) w (fun ds c w1 w2 _ _ h => h) hw fun w1 hw1 hlt => ?_).mono ?_
  · refine (fanswer_join w1 sb s (h.later hw1) (hl.later hw1) tx hT hlen hs).mono ?_
    rintro e w' ⟨rfl, hb⟩
    refine ⟨_, _, _, _, _, _, _, _, _, _, 0, rfl, .inl ⟨rfl, ?_⟩, ⟨rfl, rfl⟩, hb⟩
    rw [Lib.size_eq]
    simpa using hlen
  · rintro e w' ⟨ds, c, rfl, ⟨rfl, rfl⟩, hb⟩
    exact ⟨rfl, hb⟩

theorem two_values {w1 : World} {R1 R2 : Nat → Prop} {t u : T} {k k' : Int} {b b' : Bool} {n n' : Int} {s s' : ByteArray} {la la' : Option Addr} {ll ll' lc lc' : Nat} {ma ma' : Option Addr} {ml ml' mc mc' : Nat}
    (h1 : Lies w1 R1 t #[.int .i64 k, .bool b, .int .i64 n, .string s, .slice la ll lc, .slice ma ml mc]) (h2 : Lies w1 R2 u #[.int .i64 k', .bool b', .int .i64 n', .string s', .slice la' ll' lc', .slice ma' ml' mc']) :
    SliceV (w1.alloc (.cells #[.int .i64 k, .bool b, .int .i64 n, .string s, .slice la ll lc, .slice ma ml mc, .int .i64 k', .bool b', .int .i64 n', .string s', .slice la' ll' lc', .slice ma' ml' mc'] 28)) (fun _ => True) [t, u] (some ⟨w1.heap.size, 0, none⟩) 2
      (fun i => if i = 0 then #[.int .i64 k, .bool b, .int .i64 n, .string s, .slice la ll lc, .slice ma ml mc] else #[.int .i64 k', .bool b', .int .i64 n', .string s', .slice la' ll' lc', .slice ma' ml' mc']) := by
  have hb := Below.alloc (Below.refl w1.heap.size w1) (Nat.le_refl _) (.cells #[.int .i64 k, .bool b, .int .i64 n, .string s, .slice la ll lc, .slice ma ml mc, .int .i64 k', .bool b', .int .i64 n', .string s', .slice la' ll' lc', .slice ma' ml' mc'] 28)
  refine ⟨⟨Nat.le_refl 2, (by decide : 2 * 88 ≤ 140737488355328), by simp, fun _ => ⟨_, _, rfl, trivial⟩, by omega⟩, fun i hi bl ol e => ?_, fun i hi => ?_⟩
  · simp only [Option.some.injEq, Addr.mk.injEq, and_true] at e
    obtain ⟨rfl, rfl⟩ := e
    have hi3 : i < 2 := hi
    intro j hj
    have hj6 : j < 6 := by
      rcases (by omega : i = 0 ∨ i = 1) with rfl | rfl <;> exact hj
    rw [Nat.zero_add, World.cell?_alloc_new]
    rcases (by omega : i = 0 ∨ i = 1) with rfl | rfl <;> rcases (by omega : j = 0 ∨ j = 1 ∨ j = 2 ∨ j = 3 ∨ j = 4 ∨ j = 5) with rfl | rfl | rfl | rfl | rfl | rfl <;> rfl
  · have hi3 : i < 2 := hi
    rcases (by omega : i = 0 ∨ i = 1) with rfl | rfl
    · exact (h1.later hb).weaken fun _ _ => trivial
    · exact (h2.later hb).weaken fun _ _ => trivial
theorem lies_int (w : World) (n : Int) (hn : (Lit.int .i64 n).wf = true) : Lies w (fun _ => True) (.mk 2 false n ⟨#[]⟩ [] []) (cI n) :=
  .mk 2 false n ⟨#[]⟩ [] [] none 0 none 0 (fun _ => #[]) (fun _ => #[]) (by decide) hn (by decide) ⟨by simp, by simp, fun _ => rfl, fun h => absurd h (by simp), by simp⟩ ⟨by simp, by simp, fun _ => rfl, fun h => absurd h (by simp), by simp⟩
    (fun i h => absurd h (by simp)) (fun i h => absurd h (by simp)) (fun i h => absurd h (by simp)) (fun i h => absurd h (by simp)) (fun i h => absurd h (by simp))
/-- The words of one and two. -/
def words12 (i : Nat) : ByteArray := if i = 0 then ⟨(Lib.decDigits 1).toArray⟩ else ⟨(Lib.decDigits 2).toArray⟩
theorem words_said : ∀ i (h : i < [T.mk 2 false 1 ⟨#[]⟩ [] [], T.mk 2 false 2 ⟨#[]⟩ [] []].length), SaidOK [T.mk 2 false 1 ⟨#[]⟩ [] [], T.mk 2 false 2 ⟨#[]⟩ [] []][i] (words12 i) := fun i hi => by
  have hi2 : i < 2 := hi
  rcases (by omega : i = 0 ∨ i = 1) with rfl | rfl
  · exact @said_small 1 (by decide)
  · exact @said_small 2 (by decide)
theorem tr_nil : trT T.nil = false := rfl
theorem pick_nil (y : T) : y = if trT T.nil = true then T.nil else y := by rw [tr_nil, if_neg (by decide)]
theorem words_glued : glueL [44] words12 2 = [49, 44, 50] := by decide +kernel

theorem calls_join12 {R : Nat → Prop} {d0 : Int} {d1 : Bool} {d2 : Int} {d3 : ByteArray} {d4 : Option Addr} {d4l d4c : Nat} {d5 : Option Addr} {d5l d5c : Nat} (w : World) (hw : FnTab w) (sb : Nat) (h : TwoV w sb (.int .i64 3) (.bool false) (.int .i64 0) (.string ⟨#[44]⟩) (.slice none 0 0) (.slice none 0 0) (.int .i64 d0) (.bool d1) (.int .i64 d2) (.string d3) (.slice d4 d4l d4c) (.slice d5 d5l d5c)) (hl : Lies w R (T.listOf [T.mk 2 false 1 ⟨#[]⟩ [] [], T.mk 2 false 2 ⟨#[]⟩ [] []]) #[.int .i64 d0, .bool d1, .int .i64 d2, .string d3, .slice d4 d4l d4c, .slice d5 d5l d5c]) :
    Calls Tryz.prog 6 #[.string ⟨#[106, 111, 105, 110]⟩, .slice (some ⟨sb, 0, none⟩) 2 2] w fun e w' => e = .returned (.tuple #[.agg (cS ⟨#[49, 44, 50]⟩), .int .i64 0]) ∧ Below w.heap.size w w' := by
  have e : glueL (⟨#[44]⟩ : ByteArray).data.toList words12 [T.mk 2 false 1 ⟨#[]⟩ [] [], T.mk 2 false 2 ⟨#[]⟩ [] []].length = [49, 44, 50] := words_glued
  have := calls_join w hw sb ⟨#[44]⟩ h hl words12 words_said (by rw [e]; decide) (by decide)
  rw [e] at this
  exact this

set_option maxRecDepth 100000 in
set_option maxHeartbeats 2000000 in
theorem l8awake_any (w : World) (hw : FnTab w) : Calls Tryz.prog 5 #[] w fun e w' => e = .returned (.bool true) ∧ Below w.heap.size w w' := by
  have HW := Lib.hid hw
  clear hw
  go_enter Tryz.func5, Tryz.ntmps5
  go_upto_region 2 with (first
    | (go_at_call 7; refine (tInt_any _ _).mono ?_; rintro e w1 ⟨rfl, hb⟩; have HB1 := Lib.hid hb; clear hb)
    | (go_at_call 13; refine (tNull_any _).mono ?_; rintro e w2 ⟨rfl, hb⟩; have HB2 := Lib.hid (bstep HB1.out hb HB1.out.size); clear hb)
    | (go_at_call 6
       have hb3 := HB2.out.alloc HB2.out.size (.cells #[.int .i64 2, .bool false, .int .i64 3, .string ⟨#[]⟩, .slice none 0 0, .slice none 0 0, .int .i64 0, .bool false, .int .i64 0, .string ⟨#[]⟩, .slice none 0 0, .slice none 0 0] 28)
       refine (calls_default (r := .mk 2 false 3 ⟨#[]⟩ [] []) _ (HW.out.later hb3) _ (TwoV.new w2 _ _ _ _ _ _ _ _ _ _ _ _ 28) (lies_int _ 3 (by decide)) (nil_lies _ (fun _ => True)) (pick_nil _) (Nat.zero_le _)).mono ?_
       rintro e w3 ⟨ds, rfl, hL, hb⟩
       obtain ⟨m0, m1, m2, m3, m4, m4l, m4c, m5, m5l, m5c, rfl⟩ := hL.six
       have hm2 : m2 = 3 := by cases hL; rfl
       subst hm2
       have HB3 := Lib.hid (bstep hb3 hb hb3.size)
       clear hL hb hb3))
  have B3 := Lib.hid (Box6.new w3 #[.int .i64 m0, .bool m1, .int .i64 3, .string m3, .slice m4 m4l m4c, .slice m5 m5l m5c] 28)
  have hb4 := HB3.out.alloc HB3.out.size (.cells #[.int .i64 m0, .bool m1, .int .i64 3, .string m3, .slice m4 m4l m4c, .slice m5 m5l m5c] 28)
  have hlt : w3.heap.size < (w3.alloc (.cells #[.int .i64 m0, .bool m1, .int .i64 3, .string m3, .slice m4 m4l m4c, .slice m5 m5l m5c] 28)).heap.size := by rw [World.size_alloc]; exact Nat.lt_succ_self _
  generalize w3.alloc (.cells #[.int .i64 m0, .bool m1, .int .i64 3, .string m3, .slice m4 m4l m4c, .slice m5 m5l m5c] 28) = u at *
  have HU := Lib.hid hb4
  clear hb4
  go_upto_region 3 with (first
    | (go_at_call 10; refine (tStr_any _ _).mono ?_; rintro e w4 ⟨rfl, hb⟩; have HB4 := Lib.hid hb; clear hb)
    | (with_reducible refine (tInt_any 1 w4).mono ?_; rintro e w5 ⟨rfl, hb⟩; have HB5 := Lib.hid (bstep HB4.out hb HB4.out.size); clear hb)
    | (with_reducible refine (tInt_any 2 w5).mono ?_; rintro e w6 ⟨rfl, hb⟩; have HB6 := Lib.hid (bstep HB5.out hb HB5.out.size); clear hb)
    | (go_at_call 14
       have hb7 := HB6.out.alloc HB6.out.size (.cells #[.int .i64 2, .bool false, .int .i64 1, .string ⟨#[]⟩, .slice none 0 0, .slice none 0 0, .int .i64 2, .bool false, .int .i64 2, .string ⟨#[]⟩, .slice none 0 0, .slice none 0 0] 28)
       refine (tList_any (two_values (lies_int w6 1 (by decide)) (lies_int w6 2 (by decide))) _ (Below.refl _ _)).mono ?_
       rintro e w7 ⟨ds, rfl, hL, hb⟩
       obtain ⟨d0, d1, d2, d3, d4, d4l, d4c, d5, d5l, d5c, rfl⟩ := hL.six
       have HLD := Lib.hid hL
       have HB7 := Lib.hid (bstep hb7 hb hb7.size)
       clear hL hb hb7)
    | (go_at_call 6
       have hb8 := HB7.out.alloc HB7.out.size (.cells #[.int .i64 3, .bool false, .int .i64 0, .string ⟨#[44]⟩, .slice none 0 0, .slice none 0 0, .int .i64 d0, .bool d1, .int .i64 d2, .string d3, .slice d4 d4l d4c, .slice d5 d5l d5c] 28)
       refine (calls_join12 _ (HW.out.later (bstep HU.out hb8 HU.out.size)) _ (TwoV.new w7 _ _ _ _ _ _ _ _ _ _ _ _ 28) (HLD.out.later ((Below.refl w7.heap.size w7).alloc (Nat.le_refl _) _))).mono ?_
       rintro e w8 ⟨rfl, hb⟩
       have HB8 := Lib.hid (bstep hb8 hb hb8.size)
       clear hb hb8))
  have hb9 := HB8.out.alloc HB8.out.size (.cells (cS ⟨#[49, 44, 50]⟩) 28)
  have b9 := Box6.new w8 (cS ⟨#[49, 44, 50]⟩) 28
  obtain ⟨x0, x1, x2, x3, x4, x5⟩ := (B3.out.later hb9 hlt).six
  obtain ⟨y0, y1, y2, y3, y4, y5⟩ := b9.six
  have HB9 := Lib.hid (bstep HU.out hb9 HU.out.size)
  clear hb9 b9
  generalize w8.alloc (.cells (cS ⟨#[49, 44, 50]⟩) 28) = u9 at *
  go_wp2_with fail
  go_ret
  exact ⟨rfl, HB9.out⟩

end Go.Proofs.YthjdeckdklhphaaGreatDoor
