/-
  ScalarBack: the law's contract.
-/
import Derived.Test.YtfadijofnaepnaaDoorUnquote
import Derived.Test.YtfadijofnaepnaaDoorLawNumbers
import Derived.Test.YtfadijofnaepnaaDoorRSame
import Derived.Test.YtfadijofnaepnaaDoorRight
import Derived.DataShut
set_option linter.unusedVariables false
set_option linter.unusedSimpArgs false
namespace Go.Proofs.YtfadijofnaepnaaDoor
open Go.RowKit

/-- One value in a new block. -/
theorem one_value {w1 : World} {R1 : Nat → Prop} {t : T} {k : Int} {b : Bool} {n : Int} {s : ByteArray} {la : Option Addr} {ll lc : Nat} {ma : Option Addr} {ml mc : Nat}
    (h1 : Lies w1 R1 t #[.int .i64 k, .bool b, .int .i64 n, .string s, .slice la ll lc, .slice ma ml mc]) :
    SliceV (w1.alloc (.cells #[.int .i64 k, .bool b, .int .i64 n, .string s, .slice la ll lc, .slice ma ml mc] 25)) (fun _ => True) [t] (some ⟨w1.heap.size, 0, none⟩) 1
      (fun i => #[.int .i64 k, .bool b, .int .i64 n, .string s, .slice la ll lc, .slice ma ml mc]) := by
  have hb := Below.alloc (Below.refl w1.heap.size w1) (Nat.le_refl _) (.cells #[.int .i64 k, .bool b, .int .i64 n, .string s, .slice la ll lc, .slice ma ml mc] 25)
  refine ⟨⟨Nat.le_refl 1, (by decide : 1 * 88 ≤ 140737488355328), by simp, fun _ => ⟨_, _, rfl, trivial⟩, by omega⟩, fun i hi bl ol e => ?_, fun i hi => ?_⟩
  · simp only [Option.some.injEq, Addr.mk.injEq, and_true] at e
    obtain ⟨rfl, rfl⟩ := e
    obtain rfl : i = 0 := by simpa using hi
    intro j hj
    have hj6 : j < 6 := hj
    rw [Nat.zero_add, World.cell?_alloc_new]
    rcases (by omega : j = 0 ∨ j = 1 ∨ j = 2 ∨ j = 3 ∨ j = 4 ∨ j = 5) with rfl | rfl | rfl | rfl | rfl | rfl <;> rfl
  · obtain rfl : i = 0 := by simpa using hi
    exact (h1.later hb).weaken fun _ _ => trivial

theorem wfz : (Lit.int .i64 0).wf = true := by decide
theorem no_values (w : World) (R : Nat → Prop) : SliceV w R [] none 0 (fun _ => #[]) := ⟨⟨by simp, by simp, fun _ => rfl, fun hp => absurd hp (by simp), by omega⟩, fun i hi => absurd hi (by simp), fun i hi => absurd hi (by simp)⟩
theorem no_pairs (w : World) (R : Nat → Prop) : SliceP w R [] none 0 (fun _ => #[]) := ⟨⟨by simp, by simp, fun _ => rfl, fun hp => absurd hp (by simp), by omega⟩, fun i hi => absurd hi (by simp), fun i hi => absurd hi (by simp), fun i hi => absurd hi (by simp)⟩
theorem leaf_lies (w : World) (k : Int) (b : Bool) (n : Int) (s : ByteArray) (hk : (Lit.int .i64 k).wf = true) (hn : (Lit.int .i64 n).wf = true) (hs : s.size ≤ 140737488355328) : Lies w (fun _ => True) (.mk k b n s [] []) (six k b n s) :=
  Lies.of_slices hk hn hs (no_values _ _) (no_pairs _ _)

/-- What is known of a value that may be and is a leaf. -/
theorem good_leaf {k : Int} {b : Bool} {n : Int} {s : ByteArray} {l : List T} {m : List (ByteArray × T)} (h : (T.mk k b n s l m).good = true) (hk : k < 4) :
    (0 ≤ k) ∧ (k ≠ 1 → b = false) ∧ (k ≠ 2 → n = 0) ∧ (k ≠ 3 → s = ⟨#[]⟩) ∧ l = [] ∧ m = [] ∧ s.size ≤ 65536 := by
  have hp := good_parts h
  rw [T.parts_mk] at hp
  by_cases h1 : kindBad k b n s.toList.isEmpty l.length m.length = true
  · rw [if_pos h1] at hp; cases hp
  · rw [if_neg h1] at hp
    by_cases h2 : textB s = false
    · rw [if_pos h2] at hp; cases hp
    · have h3 : textB s = true := by simpa using h2
      unfold textB at h3
      simp only [Bool.and_eq_true, decide_eq_true_eq] at h3
      have h4 : kindBad k b n s.toList.isEmpty l.length m.length = false := by simpa using h1
      unfold kindBad at h4
      simp only [Bool.or_eq_false_iff, Bool.and_eq_false_iff, decide_eq_false_iff_not, Bool.not_eq_false', decide_eq_true_eq] at h4
      obtain ⟨⟨⟨⟨⟨⟨a1, a2⟩, a3⟩, a4⟩, a5⟩, a6⟩, a7⟩ := h4
      refine ⟨by omega, fun q => ?_, fun q => ?_, fun q => ?_, ?_, ?_, h3.1⟩
      · rcases a3 with a | a
        · exact absurd a q
        · exact a
      · rcases a4 with a | a
        · exact absurd a q
        · exact a
      · rcases a5 with a | a
        · exact absurd a q
        · have e : s.toList = [] := by
            cases hx : s.toList with
            | nil => rfl
            | cons _ _ => rw [hx] at a; cases a
          rw [← Lib.mk_data s, ← Lib.toList_data s, e]
      · rcases a6 with a | a
        · omega
        · exact List.eq_nil_of_length_eq_zero (by omega)
      · rcases a7 with a | a
        · omega
        · exact List.eq_nil_of_length_eq_zero (by omega)

theorem bare_prefix {l : List UInt8} (h : bareL l = true) : Lib.hasPrefix l [34] = false ∧ Lib.hasPrefix l [39] = false := by
  cases l with
  | nil => cases h
  | cons c l =>
    obtain ⟨h1, _, _⟩ := bare_parts h
    have hn := letter_not h1
    constructor
    · unfold Lib.hasPrefix
      simp only [List.isPrefixOf]
      rw [show ((34 : UInt8) == c) = false from beq_eq_false_iff_ne.2 (Ne.symm hn.2.2.2.1)]
      rfl
    · unfold Lib.hasPrefix
      simp only [List.isPrefixOf]
      rw [show ((39 : UInt8) == c) = false from beq_eq_false_iff_ne.2 (Ne.symm hn.2.2.2.2)]
      rfl

set_option maxRecDepth 100000 in
set_option maxHeartbeats 4000000 in
theorem scalarBack_any {w : World} {R : Nat → Prop} {t : T} {cs : Array Value} (h : Lies w R t cs) (hpow : Pow10 w) :
    Calls Tryd.prog 5 #[.agg cs] w fun e w' => e = .returned (.bool true) ∧ Below w.heap.size w w' := by
  have HP0 := Lib.hid hpow
  clear hpow
  have H := Lib.hid h
  cases h with
  | mk k b n s l m la lc ma mc cl cm hk hn hs hl hm rl rm ks il im =>
    have HWN := Lib.hid hn
    have HWK := Lib.hid hk
    clear hk hn hl hm rl rm ks il im
    have hx : ∀ j v, (#[.int .i64 k, .bool b, .int .i64 n, .string s, .slice la l.length lc, .slice ma m.length mc] : Array Value)[j]? = some v → (w.alloc (.cells #[.int .i64 k, .bool b, .int .i64 n, .string s, .slice la l.length lc, .slice ma m.length mc] 25)).cell? ⟨w.heap.size, j, none⟩ = some v := fun j v h => by rw [World.cell?_alloc_new]; exact h
    have hb1 : Below w.heap.size w (w.alloc (.cells #[.int .i64 k, .bool b, .int .i64 n, .string s, .slice la l.length lc, .slice ma m.length mc] 25)) := (Below.refl _ _).alloc (Nat.le_refl _) _
    have BX : Hid (∀ wr, Below (w.heap.size + 1) (w.alloc (.cells #[.int .i64 k, .bool b, .int .i64 n, .string s, .slice la l.length lc, .slice ma m.length mc] 25)) wr → ∀ j v, (#[.int .i64 k, .bool b, .int .i64 n, .string s, .slice la l.length lc, .slice ma m.length mc] : Array Value)[j]? = some v → wr.cell? ⟨w.heap.size, j, none⟩ = some v) := fun wr hb j v h => (hb.cell (p := ⟨w.heap.size, j, none⟩) (by simp)).trans (hx j v h)
    have HS := Lib.hid (one_value (H.out.later hb1))
    have HB1 := Lib.hid hb1
    have hsz : (w.alloc (.cells #[.int .i64 k, .bool b, .int .i64 n, .string s, .slice la l.length lc, .slice ma m.length mc] 25)).heap.size = w.heap.size + 1 := by simp
    have hr := right_any HS.out _ (Below.refl _ _)
    rw [hsz] at hr
    have HR : Hid (Calls Tryd.prog 8 #[.slice (some ⟨w.heap.size + 1, 0, none⟩) 1 1] ((w.alloc (.cells #[.int .i64 k, .bool b, .int .i64 n, .string s, .slice la l.length lc, .slice ma m.length mc] 25)).alloc (.cells #[.int .i64 k, .bool b, .int .i64 n, .string s, .slice la l.length lc, .slice ma m.length mc] 25)) fun e w' => e = .returned (.bool ([T.mk k b n s l m].all T.good)) ∧ Below ((w.alloc (.cells #[.int .i64 k, .bool b, .int .i64 n, .string s, .slice la l.length lc, .slice ma m.length mc] 25)).alloc (.cells #[.int .i64 k, .bool b, .int .i64 n, .string s, .slice la l.length lc, .slice ma m.length mc] 25)).heap.size ((w.alloc (.cells #[.int .i64 k, .bool b, .int .i64 n, .string s, .slice la l.length lc, .slice ma m.length mc] 25)).alloc (.cells #[.int .i64 k, .bool b, .int .i64 n, .string s, .slice la l.length lc, .slice ma m.length mc] 25)) w') := hr
    clear hr hsz
    have hb2 : Below (w.heap.size + 1) (w.alloc (.cells #[.int .i64 k, .bool b, .int .i64 n, .string s, .slice la l.length lc, .slice ma m.length mc] 25)) ((w.alloc (.cells #[.int .i64 k, .bool b, .int .i64 n, .string s, .slice la l.length lc, .slice ma m.length mc] 25)).alloc (.cells #[.int .i64 k, .bool b, .int .i64 n, .string s, .slice la l.length lc, .slice ma m.length mc] 25)) := (Below.refl _ _).alloc (by simp) _
    have HB2 := Lib.hid hb2
    have c0 := hx 0 _ rfl
    have c1 := hx 1 _ rfl
    have c2 := hx 2 _ rfl
    have c3 := hx 3 _ rfl
    have c4 := hx 4 _ rfl
    have c5 := hx 5 _ rfl
    clear hx hb1 hb2
    cases hg : (T.mk k b n s l m).good with
    | false =>
      have HG : Hid (([T.mk k b n s l m].all T.good) = false) := by show _ = _; rw [List.all_cons, hg]; rfl
      clear hg
      go_enter Tryd.func5, Tryd.ntmps5
      go_wp2_with (first
        | (go_at_call 8; refine HR.out.mono ?_; rintro e w2 ⟨he, hb⟩
           rw [HG.out] at he
           subst he
           have HD2 := Lib.hid (HB2.out.trans (hb.mono (by simp)))
           have HC2 := Lib.hid (HB1.out.trans (HD2.out.mono (by omega)))
           clear hb c0 c1 c2 c3 c4 c5
           have c0 := BX.out _ HD2.out 0 _ rfl
           have c1 := BX.out _ HD2.out 1 _ rfl
           have c2 := BX.out _ HD2.out 2 _ rfl
           have c3 := BX.out _ HD2.out 3 _ rfl
           have c4 := BX.out _ HD2.out 4 _ rfl
           have c5 := BX.out _ HD2.out 5 _ rfl)
        | (go_at_call 9; refine (law4awake_any _).mono ?_; rintro e w3 ⟨rfl, hb⟩
           have HC3 := Lib.hid (HC2.out.trans (hb.mono HC2.out.size))
           clear hb))
      go_ret
      exact ⟨rfl, HC3.out⟩
    | true =>
      have HG : Hid (([T.mk k b n s l m].all T.good) = true) := by show _ = _; rw [List.all_cons, hg]; rfl
      by_cases hk4 : 4 ≤ k
      · clear hg
        go_enter Tryd.func5, Tryd.ntmps5
        go_wp2_with (first
          | (go_at_call 8; refine HR.out.mono ?_; rintro e w2 ⟨he, hb⟩
             rw [HG.out] at he
             subst he
             have HD2 := Lib.hid (HB2.out.trans (hb.mono (by simp)))
             have HC2 := Lib.hid (HB1.out.trans (HD2.out.mono (by omega)))
             clear hb c0 c1 c2 c3 c4 c5
             have c0 := BX.out _ HD2.out 0 _ rfl
             have c1 := BX.out _ HD2.out 1 _ rfl
             have c2 := BX.out _ HD2.out 2 _ rfl
             have c3 := BX.out _ HD2.out 3 _ rfl
             have c4 := BX.out _ HD2.out 4 _ rfl
             have c5 := BX.out _ HD2.out 5 _ rfl)
          | (go_at_call 9; refine (law4awake_any _).mono ?_; rintro e w3 ⟨rfl, hb⟩
             have HC3 := Lib.hid (HC2.out.trans (hb.mono HC2.out.size))
             clear hb))
        go_ret
        exact ⟨rfl, HC3.out⟩
      · obtain ⟨g1, g2, g3, g4, g5, g6, g7⟩ := good_leaf hg (by omega)
        subst g5 g6
        have hwf := (Lit.wf_int_iff _ _).1 HWN.out
        have e1 : IntKind.i64.min = -9223372036854775808 := by decide
        have e2 : IntKind.i64.max = 9223372036854775807 := by decide
        rw [e1, e2] at hwf
        obtain ⟨hn0, hn1⟩ := hwf
        clear e1 e2 hg
        rcases (by omega : k = 0 ∨ k = 1 ∨ k = 2 ∨ k = 3) with hk | hk | hk | hk
        · subst hk
          obtain rfl := g2 (by omega)
          obtain rfl := g3 (by omega)
          obtain rfl := g4 (by omega)
          clear g1 g2 g3 g4 g7
          go_enter Tryd.func5, Tryd.ntmps5
          go_wp2_with (first
            | (go_at_call 8; refine HR.out.mono ?_; rintro e w2 ⟨he, hb⟩
               rw [HG.out] at he
               subst he
               have HD2 := Lib.hid (HB2.out.trans (hb.mono (by simp)))
               have HC2 := Lib.hid (HB1.out.trans (HD2.out.mono (by omega)))
               clear hb c0 c1 c2 c3 c4 c5
               have c0 := BX.out _ HD2.out 0 _ rfl
               have c1 := BX.out _ HD2.out 1 _ rfl
               have c2 := BX.out _ HD2.out 2 _ rfl
               have c3 := BX.out _ HD2.out 3 _ rfl
               have c4 := BX.out _ HD2.out 4 _ rfl
               have c5 := BX.out _ HD2.out 5 _ rfl)
            | ((with_reducible refine (cPrint_null _ _ _ _ _ _ _ _ _ _).mono ?_); rintro e w3 ⟨rfl, hb⟩
               have HD3 := Lib.hid (HD2.out.trans (hb.mono (by have := HD2.out.size; simp only [World.size_alloc] at this ⊢; omega)))
               have HC3 := Lib.hid (HC2.out.trans (hb.mono HC2.out.size))
               clear hb c0 c1 c2 c3 c4 c5
               have c0 := BX.out _ HD3.out 0 _ rfl
               have c1 := BX.out _ HD3.out 1 _ rfl
               have c2 := BX.out _ HD3.out 2 _ rfl
               have c3 := BX.out _ HD3.out 3 _ rfl
               have c4 := BX.out _ HD3.out 4 _ rfl
               have c5 := BX.out _ HD3.out 5 _ rfl)
            | ((with_reducible refine (cParse_null _).mono ?_); rintro e w4 ⟨rfl, hb⟩
               have hd4 := HD3.out.trans (hb.mono (by have := HD3.out.size; simp only [World.size_alloc] at this ⊢; omega))
               have HD4 := Lib.hid (hd4.alloc (by have := hd4.size; simp only [World.size_alloc] at this ⊢; omega) (.cells (six 0 false 0 ⟨#[]⟩) 25))
               have HC4 := Lib.hid ((HC3.out.trans (hb.mono HC3.out.size)).alloc (HC3.out.trans (hb.mono HC3.out.size)).size (.cells (six 0 false 0 ⟨#[]⟩) 25))
               clear hb hd4)
            | (go_at_call 9; refine (law4awake_any _).mono ?_; rintro e w5 ⟨rfl, hb⟩
               obtain ⟨x0, f0⟩ := one_boxV hb
               have d0 := x0 0
               have d1 := x0 1
               have d2 := x0 2
               have d3 := x0 3
               have d4 := x0 4
               have d5 := x0 5
               simp at d0 d1 d2 d3 d4 d5
               have HD5 := Lib.hid (HD4.out.trans (hb.mono (by have := HD4.out.size; simp only [World.size_alloc] at this ⊢; omega)))
               have HC5 := Lib.hid (HC4.out.trans (hb.mono HC4.out.size))
               clear hb x0 c0 c1 c2 c3 c4 c5
               have c0 := BX.out _ HD5.out 0 _ rfl
               have c1 := BX.out _ HD5.out 1 _ rfl
               have c2 := BX.out _ HD5.out 2 _ rfl
               have c3 := BX.out _ HD5.out 3 _ rfl
               have c4 := BX.out _ HD5.out 4 _ rfl
               have c5 := BX.out _ HD5.out 5 _ rfl)
            | (go_at_call 12; refine (rSame_any (leaf_lies w5 0 false 0 ⟨#[]⟩ (by decide) HWN.out (by omega)) (H.out.later HC5.out) _ (Below.refl _ _)).mono ?_; rintro e w6 ⟨he, hb⟩
               rw [T.same_self] at he
               subst he
               have HC6 := Lib.hid (HC5.out.trans (hb.mono HC5.out.size))
               clear hb))
          go_ret
          exact ⟨rfl, HC6.out⟩
        · subst hk
          obtain rfl := g3 (by omega)
          obtain rfl := g4 (by omega)
          clear g1 g2 g3 g4 g7
          cases b with
          | false =>
            have PB : Hid (∀ w, Calls Tryd.prog 15 #[.agg #[.int .i64 1, .bool false, .int .i64 0, .string ⟨#[]⟩, .slice la ([] : List T).length lc, .slice ma ([] : List (ByteArray × T)).length mc]] w fun e w' => e = .returned (.string ⟨#[102, 97, 108, 115, 101]⟩) ∧ Below w.heap.size w w') := fun w => cPrint_bool false 0 ⟨#[]⟩ la _ lc ma _ mc w
            go_enter Tryd.func5, Tryd.ntmps5
            go_wp2_with (first
              | (go_at_call 8; refine HR.out.mono ?_; rintro e w2 ⟨he, hb⟩
                 rw [HG.out] at he
                 subst he
                 have HD2 := Lib.hid (HB2.out.trans (hb.mono (by simp)))
                 have HC2 := Lib.hid (HB1.out.trans (HD2.out.mono (by omega)))
                 clear hb c0 c1 c2 c3 c4 c5
                 have c0 := BX.out _ HD2.out 0 _ rfl
                 have c1 := BX.out _ HD2.out 1 _ rfl
                 have c2 := BX.out _ HD2.out 2 _ rfl
                 have c3 := BX.out _ HD2.out 3 _ rfl
                 have c4 := BX.out _ HD2.out 4 _ rfl
                 have c5 := BX.out _ HD2.out 5 _ rfl)
              | (go_at_call 15; refine (PB.out _).mono ?_; rintro e w3 ⟨rfl, hb⟩
                 have HD3 := Lib.hid (HD2.out.trans (hb.mono (by have := HD2.out.size; simp only [World.size_alloc] at this ⊢; omega)))
                 have HC3 := Lib.hid (HC2.out.trans (hb.mono HC2.out.size))
                 clear hb c0 c1 c2 c3 c4 c5
                 have c0 := BX.out _ HD3.out 0 _ rfl
                 have c1 := BX.out _ HD3.out 1 _ rfl
                 have c2 := BX.out _ HD3.out 2 _ rfl
                 have c3 := BX.out _ HD3.out 3 _ rfl
                 have c4 := BX.out _ HD3.out 4 _ rfl
                 have c5 := BX.out _ HD3.out 5 _ rfl)
              | ((with_reducible refine (cParse_false _).mono ?_); rintro e w4 ⟨rfl, hb⟩
                 have hd4 := HD3.out.trans (hb.mono (by have := HD3.out.size; simp only [World.size_alloc] at this ⊢; omega))
                 have HD4 := Lib.hid (hd4.alloc (by have := hd4.size; simp only [World.size_alloc] at this ⊢; omega) (.cells (six 1 false 0 ⟨#[]⟩) 25))
                 have HC4 := Lib.hid ((HC3.out.trans (hb.mono HC3.out.size)).alloc (HC3.out.trans (hb.mono HC3.out.size)).size (.cells (six 1 false 0 ⟨#[]⟩) 25))
                 clear hb hd4)
              | (go_at_call 9; refine (law4awake_any _).mono ?_; rintro e w5 ⟨rfl, hb⟩
                 obtain ⟨x0, f0⟩ := one_boxV hb
                 have d0 := x0 0
                 have d1 := x0 1
                 have d2 := x0 2
                 have d3 := x0 3
                 have d4 := x0 4
                 have d5 := x0 5
                 simp at d0 d1 d2 d3 d4 d5
                 have HD5 := Lib.hid (HD4.out.trans (hb.mono (by have := HD4.out.size; simp only [World.size_alloc] at this ⊢; omega)))
                 have HC5 := Lib.hid (HC4.out.trans (hb.mono HC4.out.size))
                 clear hb x0 c0 c1 c2 c3 c4 c5
                 have c0 := BX.out _ HD5.out 0 _ rfl
                 have c1 := BX.out _ HD5.out 1 _ rfl
                 have c2 := BX.out _ HD5.out 2 _ rfl
                 have c3 := BX.out _ HD5.out 3 _ rfl
                 have c4 := BX.out _ HD5.out 4 _ rfl
                 have c5 := BX.out _ HD5.out 5 _ rfl)
              | (go_at_call 12; refine (rSame_any (leaf_lies w5 1 false 0 ⟨#[]⟩ (by decide) HWN.out (by omega)) (H.out.later HC5.out) _ (Below.refl _ _)).mono ?_; rintro e w6 ⟨he, hb⟩
                 rw [T.same_self] at he
                 subst he
                 have HC6 := Lib.hid (HC5.out.trans (hb.mono HC5.out.size))
                 clear hb))
            go_ret
            exact ⟨rfl, HC6.out⟩
          | true =>
            have PB : Hid (∀ w, Calls Tryd.prog 15 #[.agg #[.int .i64 1, .bool true, .int .i64 0, .string ⟨#[]⟩, .slice la ([] : List T).length lc, .slice ma ([] : List (ByteArray × T)).length mc]] w fun e w' => e = .returned (.string ⟨#[116, 114, 117, 101]⟩) ∧ Below w.heap.size w w') := fun w => cPrint_bool true 0 ⟨#[]⟩ la _ lc ma _ mc w
            go_enter Tryd.func5, Tryd.ntmps5
            go_wp2_with (first
              | (go_at_call 8; refine HR.out.mono ?_; rintro e w2 ⟨he, hb⟩
                 rw [HG.out] at he
                 subst he
                 have HD2 := Lib.hid (HB2.out.trans (hb.mono (by simp)))
                 have HC2 := Lib.hid (HB1.out.trans (HD2.out.mono (by omega)))
                 clear hb c0 c1 c2 c3 c4 c5
                 have c0 := BX.out _ HD2.out 0 _ rfl
                 have c1 := BX.out _ HD2.out 1 _ rfl
                 have c2 := BX.out _ HD2.out 2 _ rfl
                 have c3 := BX.out _ HD2.out 3 _ rfl
                 have c4 := BX.out _ HD2.out 4 _ rfl
                 have c5 := BX.out _ HD2.out 5 _ rfl)
              | (go_at_call 15; refine (PB.out _).mono ?_; rintro e w3 ⟨rfl, hb⟩
                 have HD3 := Lib.hid (HD2.out.trans (hb.mono (by have := HD2.out.size; simp only [World.size_alloc] at this ⊢; omega)))
                 have HC3 := Lib.hid (HC2.out.trans (hb.mono HC2.out.size))
                 clear hb c0 c1 c2 c3 c4 c5
                 have c0 := BX.out _ HD3.out 0 _ rfl
                 have c1 := BX.out _ HD3.out 1 _ rfl
                 have c2 := BX.out _ HD3.out 2 _ rfl
                 have c3 := BX.out _ HD3.out 3 _ rfl
                 have c4 := BX.out _ HD3.out 4 _ rfl
                 have c5 := BX.out _ HD3.out 5 _ rfl)
              | ((with_reducible refine (cParse_true _).mono ?_); rintro e w4 ⟨rfl, hb⟩
                 have hd4 := HD3.out.trans (hb.mono (by have := HD3.out.size; simp only [World.size_alloc] at this ⊢; omega))
                 have HD4 := Lib.hid (hd4.alloc (by have := hd4.size; simp only [World.size_alloc] at this ⊢; omega) (.cells (six 1 true 0 ⟨#[]⟩) 25))
                 have HC4 := Lib.hid ((HC3.out.trans (hb.mono HC3.out.size)).alloc (HC3.out.trans (hb.mono HC3.out.size)).size (.cells (six 1 true 0 ⟨#[]⟩) 25))
                 clear hb hd4)
              | (go_at_call 9; refine (law4awake_any _).mono ?_; rintro e w5 ⟨rfl, hb⟩
                 obtain ⟨x0, f0⟩ := one_boxV hb
                 have d0 := x0 0
                 have d1 := x0 1
                 have d2 := x0 2
                 have d3 := x0 3
                 have d4 := x0 4
                 have d5 := x0 5
                 simp at d0 d1 d2 d3 d4 d5
                 have HD5 := Lib.hid (HD4.out.trans (hb.mono (by have := HD4.out.size; simp only [World.size_alloc] at this ⊢; omega)))
                 have HC5 := Lib.hid (HC4.out.trans (hb.mono HC4.out.size))
                 clear hb x0 c0 c1 c2 c3 c4 c5
                 have c0 := BX.out _ HD5.out 0 _ rfl
                 have c1 := BX.out _ HD5.out 1 _ rfl
                 have c2 := BX.out _ HD5.out 2 _ rfl
                 have c3 := BX.out _ HD5.out 3 _ rfl
                 have c4 := BX.out _ HD5.out 4 _ rfl
                 have c5 := BX.out _ HD5.out 5 _ rfl)
              | (go_at_call 12; refine (rSame_any (leaf_lies w5 1 true 0 ⟨#[]⟩ (by decide) HWN.out (by omega)) (H.out.later HC5.out) _ (Below.refl _ _)).mono ?_; rintro e w6 ⟨he, hb⟩
                 rw [T.same_self] at he
                 subst he
                 have HC6 := Lib.hid (HC5.out.trans (hb.mono HC5.out.size))
                 clear hb))
            go_ret
            exact ⟨rfl, HC6.out⟩
        · subst hk
          obtain rfl := g2 (by omega)
          obtain rfl := g4 (by omega)
          clear g1 g2 g3 g4 g7
          have NI : Hid (Numeral ⟨(Lib.itoa n).toArray⟩ n) := by
            by_cases h : 0 ≤ n
            · exact num_pos h hn1 0 (by omega) _ (by show Lib.itoa n = _; rw [itoa_pos h]; rfl)
            · exact num_neg (by omega) hn0 0 (by omega) _ (by show Lib.itoa n = _; rw [itoa_neg (by omega)]; rfl)
          go_enter Tryd.func5, Tryd.ntmps5
          go_wp2_with (first
            | (go_at_call 8; refine HR.out.mono ?_; rintro e w2 ⟨he, hb⟩
               rw [HG.out] at he
               subst he
               have HD2 := Lib.hid (HB2.out.trans (hb.mono (by simp)))
               have HC2 := Lib.hid (HB1.out.trans (HD2.out.mono (by omega)))
               clear hb c0 c1 c2 c3 c4 c5
               have c0 := BX.out _ HD2.out 0 _ rfl
               have c1 := BX.out _ HD2.out 1 _ rfl
               have c2 := BX.out _ HD2.out 2 _ rfl
               have c3 := BX.out _ HD2.out 3 _ rfl
               have c4 := BX.out _ HD2.out 4 _ rfl
               have c5 := BX.out _ HD2.out 5 _ rfl)
            | ((with_reducible refine (cPrint_int _ n _ _ _ _ _ _ _ hn0 hn1 _ (HP0.out.below HC2.out)).mono ?_); rintro e w3 ⟨rfl, hb⟩
               have HD3 := Lib.hid (HD2.out.trans (hb.mono (by have := HD2.out.size; simp only [World.size_alloc] at this ⊢; omega)))
               have HC3 := Lib.hid (HC2.out.trans (hb.mono HC2.out.size))
               clear hb c0 c1 c2 c3 c4 c5
               have c0 := BX.out _ HD3.out 0 _ rfl
               have c1 := BX.out _ HD3.out 1 _ rfl
               have c2 := BX.out _ HD3.out 2 _ rfl
               have c3 := BX.out _ HD3.out 3 _ rfl
               have c4 := BX.out _ HD3.out 4 _ rfl
               have c5 := BX.out _ HD3.out 5 _ rfl)
            | ((with_reducible refine (cParse_int ⟨(Lib.itoa n).toArray⟩ (by have := NI.out.size; omega) NI.out.named NI.out.number n NI.out.parse _).mono ?_); rintro e w4 ⟨rfl, hb⟩
               have hd4 := HD3.out.trans (hb.mono (by have := HD3.out.size; simp only [World.size_alloc] at this ⊢; omega))
               have HD4 := Lib.hid (hd4.alloc (by have := hd4.size; simp only [World.size_alloc] at this ⊢; omega) (.cells (six 2 false n ⟨#[]⟩) 25))
               have HC4 := Lib.hid ((HC3.out.trans (hb.mono HC3.out.size)).alloc (HC3.out.trans (hb.mono HC3.out.size)).size (.cells (six 2 false n ⟨#[]⟩) 25))
               clear hb hd4)
            | (go_at_call 9; refine (law4awake_any _).mono ?_; rintro e w5 ⟨rfl, hb⟩
               obtain ⟨x0, f0⟩ := one_boxV hb
               have d0 := x0 0
               have d1 := x0 1
               have d2 := x0 2
               have d3 := x0 3
               have d4 := x0 4
               have d5 := x0 5
               simp at d0 d1 d2 d3 d4 d5
               have HD5 := Lib.hid (HD4.out.trans (hb.mono (by have := HD4.out.size; simp only [World.size_alloc] at this ⊢; omega)))
               have HC5 := Lib.hid (HC4.out.trans (hb.mono HC4.out.size))
               clear hb x0 c0 c1 c2 c3 c4 c5
               have c0 := BX.out _ HD5.out 0 _ rfl
               have c1 := BX.out _ HD5.out 1 _ rfl
               have c2 := BX.out _ HD5.out 2 _ rfl
               have c3 := BX.out _ HD5.out 3 _ rfl
               have c4 := BX.out _ HD5.out 4 _ rfl
               have c5 := BX.out _ HD5.out 5 _ rfl)
            | (go_at_call 12; refine (rSame_any (leaf_lies w5 2 false n ⟨#[]⟩ (by decide) HWN.out (by omega)) (H.out.later HC5.out) _ (Below.refl _ _)).mono ?_; rintro e w6 ⟨he, hb⟩
               rw [T.same_self] at he
               subst he
               have HC6 := Lib.hid (HC5.out.trans (hb.mono HC5.out.size))
               clear hb))
          go_ret
          exact ⟨rfl, HC6.out⟩
        · subst hk
          obtain rfl := g2 (by omega)
          obtain rfl := g3 (by omega)
          clear g1 g2 g3 g4
          have hs16 : s.size ≤ 65536 := g7
          clear g7
          cases hbare : bareL s.data.toList with
          | true =>
            have HW := Lib.hid (word_bare hbare)
            have HN1 := Lib.hid (bare_named hbare)
            have HN2 := Lib.hid (bare_number hbare)
            have HU1 := Lib.hid (bare_prefix hbare).1
            have HU2 := Lib.hid (bare_prefix hbare).2
            clear hbare
            go_enter Tryd.func5, Tryd.ntmps5
            go_wp2_with (first
              | (go_at_call 8; refine HR.out.mono ?_; rintro e w2 ⟨he, hb⟩
                 rw [HG.out] at he
                 subst he
                 have HD2 := Lib.hid (HB2.out.trans (hb.mono (by simp)))
                 have HC2 := Lib.hid (HB1.out.trans (HD2.out.mono (by omega)))
                 clear hb c0 c1 c2 c3 c4 c5
                 have c0 := BX.out _ HD2.out 0 _ rfl
                 have c1 := BX.out _ HD2.out 1 _ rfl
                 have c2 := BX.out _ HD2.out 2 _ rfl
                 have c3 := BX.out _ HD2.out 3 _ rfl
                 have c4 := BX.out _ HD2.out 4 _ rfl
                 have c5 := BX.out _ HD2.out 5 _ rfl)
              | ((with_reducible refine (cPrint_str _ _ s _ _ _ _ _ _ (by omega) _).mono ?_); rintro e w3 ⟨he, hb⟩
                 rw [HW.out] at he
                 subst he
                 have HD3 := Lib.hid (HD2.out.trans (hb.mono (by have := HD2.out.size; simp only [World.size_alloc] at this ⊢; omega)))
                 have HC3 := Lib.hid (HC2.out.trans (hb.mono HC2.out.size))
                 clear hb c0 c1 c2 c3 c4 c5
                 have c0 := BX.out _ HD3.out 0 _ rfl
                 have c1 := BX.out _ HD3.out 1 _ rfl
                 have c2 := BX.out _ HD3.out 2 _ rfl
                 have c3 := BX.out _ HD3.out 3 _ rfl
                 have c4 := BX.out _ HD3.out 4 _ rfl
                 have c5 := BX.out _ HD3.out 5 _ rfl)
              | (go_at_call 20; refine (cUnquote_none s HU1.out HU2.out _).mono ?_; rintro e w7 ⟨rfl, hw⟩
                 have hw2 := hw.symm
                 subst hw2)
              | ((with_reducible refine (cParse_str s (by omega) HN1.out HN2.out _).mono ?_); rintro e w4 ⟨rfl, hb⟩
                 have hd4 := HD3.out.trans (hb.mono (by have := HD3.out.size; simp only [World.size_alloc] at this ⊢; omega))
                 have HD4 := Lib.hid (hd4.alloc (by have := hd4.size; simp only [World.size_alloc] at this ⊢; omega) (.cells (six 3 false 0 s) 25))
                 have HC4 := Lib.hid ((HC3.out.trans (hb.mono HC3.out.size)).alloc (HC3.out.trans (hb.mono HC3.out.size)).size (.cells (six 3 false 0 s) 25))
                 clear hb hd4)
              | (go_at_call 9; refine (law4awake_any _).mono ?_; rintro e w5 ⟨rfl, hb⟩
                 obtain ⟨x0, f0⟩ := one_boxV hb
                 have d0 := x0 0
                 have d1 := x0 1
                 have d2 := x0 2
                 have d3 := x0 3
                 have d4 := x0 4
                 have d5 := x0 5
                 simp at d0 d1 d2 d3 d4 d5
                 have HD5 := Lib.hid (HD4.out.trans (hb.mono (by have := HD4.out.size; simp only [World.size_alloc] at this ⊢; omega)))
                 have HC5 := Lib.hid (HC4.out.trans (hb.mono HC4.out.size))
                 clear hb x0 c0 c1 c2 c3 c4 c5
                 have c0 := BX.out _ HD5.out 0 _ rfl
                 have c1 := BX.out _ HD5.out 1 _ rfl
                 have c2 := BX.out _ HD5.out 2 _ rfl
                 have c3 := BX.out _ HD5.out 3 _ rfl
                 have c4 := BX.out _ HD5.out 4 _ rfl
                 have c5 := BX.out _ HD5.out 5 _ rfl)
              | (go_at_call 12; refine (rSame_any (leaf_lies w5 3 false 0 s (by decide) HWN.out (by omega)) (H.out.later HC5.out) _ (Below.refl _ _)).mono ?_; rintro e w6 ⟨he, hb⟩
                 rw [T.same_self] at he
                 subst he
                 have HC6 := Lib.hid (HC5.out.trans (hb.mono HC5.out.size))
                 clear hb))
            go_ret
            exact ⟨rfl, HC6.out⟩
          | false =>
            have HBF := Lib.hid hbare
            obtain ⟨wq, hwq⟩ : ∃ wq : ByteArray, wordB s = wq := ⟨_, rfl⟩
            have HW := Lib.hid hwq
            have hwq2 : wq = ⟨(quoteL s.data.toList).toArray⟩ := by rw [← hwq, wordB, if_neg (by rw [hbare]; decide)]
            have HQ : Hid (wq.data.toList = quoteL s.data.toList ++ []) := by show _ = _; rw [hwq2, List.append_nil]
            have hwz : wq.size ≤ 200000 := by
              rw [hwq2, Lib.size_eq]
              have h1 := esc_len s.data.toList
              rw [Lib.size_eq] at hs16
              simp only [quoteL, List.length_cons, List.length_append, List.length_nil]
              omega
            clear hbare hwq hwq2
            go_enter Tryd.func5, Tryd.ntmps5
            go_wp2_with (first
              | (go_at_call 8; refine HR.out.mono ?_; rintro e w2 ⟨he, hb⟩
                 rw [HG.out] at he
                 subst he
                 have HD2 := Lib.hid (HB2.out.trans (hb.mono (by simp)))
                 have HC2 := Lib.hid (HB1.out.trans (HD2.out.mono (by omega)))
                 clear hb c0 c1 c2 c3 c4 c5
                 have c0 := BX.out _ HD2.out 0 _ rfl
                 have c1 := BX.out _ HD2.out 1 _ rfl
                 have c2 := BX.out _ HD2.out 2 _ rfl
                 have c3 := BX.out _ HD2.out 3 _ rfl
                 have c4 := BX.out _ HD2.out 4 _ rfl
                 have c5 := BX.out _ HD2.out 5 _ rfl)
              | ((with_reducible refine (cPrint_str _ _ s _ _ _ _ _ _ (by omega) _).mono ?_); rintro e w3 ⟨he, hb⟩
                 rw [HW.out] at he
                 subst he
                 have HD3 := Lib.hid (HD2.out.trans (hb.mono (by have := HD2.out.size; simp only [World.size_alloc] at this ⊢; omega)))
                 have HC3 := Lib.hid (HC2.out.trans (hb.mono HC2.out.size))
                 clear hb c0 c1 c2 c3 c4 c5
                 have c0 := BX.out _ HD3.out 0 _ rfl
                 have c1 := BX.out _ HD3.out 1 _ rfl
                 have c2 := BX.out _ HD3.out 2 _ rfl
                 have c3 := BX.out _ HD3.out 3 _ rfl
                 have c4 := BX.out _ HD3.out 4 _ rfl
                 have c5 := BX.out _ HD3.out 5 _ rfl)
              | (go_at_call 20; refine (cUnquote_quoted wq s.data.toList [] (by omega) HQ.out _).mono ?_; rintro e w4 ⟨rfl, hb⟩
                 have HD4 := Lib.hid (HD3.out.trans (hb.mono (by have := HD3.out.size; simp only [World.size_alloc] at this ⊢; omega)))
                 have HC4 := Lib.hid (HC3.out.trans (hb.mono HC3.out.size))
                 clear hb)
              | (go_at_call 9; refine (law4awake_any _).mono ?_; rintro e w5 ⟨rfl, hb⟩
                 have HD5 := Lib.hid (HD4.out.trans (hb.mono (by have := HD4.out.size; simp only [World.size_alloc] at this ⊢; omega)))
                 have HC5 := Lib.hid (HC4.out.trans (hb.mono HC4.out.size))
                 clear hb c0 c1 c2 c3 c4 c5
                 have c0 := BX.out _ HD5.out 0 _ rfl
                 have c1 := BX.out _ HD5.out 1 _ rfl
                 have c2 := BX.out _ HD5.out 2 _ rfl
                 have c3 := BX.out _ HD5.out 3 _ rfl
                 have c4 := BX.out _ HD5.out 4 _ rfl
                 have c5 := BX.out _ HD5.out 5 _ rfl)
              | (go_at_call 13; refine (cBare_any s (by omega) _).mono ?_; rintro e w6 ⟨he, hw⟩
                 rw [HBF.out] at he
                 have hw2 := hw.symm
                 subst he hw2))

            go_ret
            exact ⟨rfl, HC5.out⟩

end Go.Proofs.YtfadijofnaepnaaDoor
