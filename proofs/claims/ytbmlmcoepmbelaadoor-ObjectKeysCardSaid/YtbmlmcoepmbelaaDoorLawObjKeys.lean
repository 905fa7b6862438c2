/-
  ObjectKeys: the law's contract.
-/
import Derived.Test.YtbmlmcoepmbelaaDoorObjA
import Derived.Test.YtbmlmcoepmbelaaDoorSpecsS
set_option linter.unusedVariables false
set_option linter.unusedSimpArgs false
namespace Go.Proofs.YtbmlmcoepmbelaaDoor
open Go.RowKit Go.Sort

theorem key_eq {k p n k' p' n' : ByteArray} (h1 : rightO k p n = true) (h2 : rightO k' p' n' = true) (E : Bool) (hE : E = decide (k = k' ∧ p = p' ∧ n = n')) : ((keyO k p n).toList == (keyO k' p' n').toList) = E := by
  subst hE
  by_cases h : k = k' ∧ p = p' ∧ n = n'
  · obtain ⟨rfl, rfl, rfl⟩ := h
    simp
  · rw [decide_eq_false h, beq_eq_false_iff_ne]
    exact fun e => h (key_inj h1 h2 (toList_inj e))
theorem id_cases {k p n k' p' n' : ByteArray} (E : Bool) (hE : E = decide (k = k' ∧ p = p' ∧ n = n')) :
    (k.toList = k'.toList ∧ p.toList = p'.toList ∧ n.toList = n'.toList ∧ E = true) ∨ (¬ k.toList = k'.toList ∧ E = false) ∨ (k.toList = k'.toList ∧ ¬ p.toList = p'.toList ∧ E = false) ∨ (k.toList = k'.toList ∧ p.toList = p'.toList ∧ ¬ n.toList = n'.toList ∧ E = false) := by
  subst hE
  by_cases h1 : k = k'
  · by_cases h2 : p = p'
    · by_cases h3 : n = n'
      · exact .inl ⟨by rw [h1], by rw [h2], by rw [h3], decide_eq_true ⟨h1, h2, h3⟩⟩
      · exact .inr (.inr (.inr ⟨by rw [h1], by rw [h2], fun e => h3 (toList_inj e), decide_eq_false (fun e => h3 e.2.2)⟩))
    · exact .inr (.inr (.inl ⟨by rw [h1], fun e => h2 (toList_inj e), decide_eq_false (fun e => h2 e.2.1)⟩))
  · exact .inr (.inl ⟨fun e => h1 (toList_inj e), decide_eq_false (fun e => h1 e.1)⟩)
theorem cmp_eq {k p n k' p' n' : ByteArray} (E : Bool) (hE : E = decide (k = k' ∧ p = p' ∧ n = n')) : (cmpO k p n k' p' n' == 0) = E := by
  subst hE
  by_cases h : k = k' ∧ p = p' ∧ n = n'
  · obtain ⟨rfl, rfl, rfl⟩ := h
    rw [cmpO_self]
    simp
  · rw [decide_eq_false h, beq_eq_false_iff_ne]
    exact fun e => h (cmpO_zero e)
theorem cmpO_range (k p n k' p' n' : ByteArray) : -1 ≤ cmpO k p n k' p' n' ∧ cmpO k p n k' p' n' ≤ 1 := by
  have hc : ∀ a b : ByteArray, -1 ≤ cmpS a b ∧ cmpS a b ≤ 1 := fun a b => cmpS_range a b
  unfold cmpO
  split
  · exact cmpI_range _ _
  · split
    · exact hc _ _
    · split
      · exact hc _ _
      · exact hc _ _

set_option maxRecDepth 100000 in
set_option maxHeartbeats 8000000 in
theorem objectKeys_any (k p n k' p' n' : ByteArray) (hk : k.size ≤ 140737488355328) (hp : p.size ≤ 140737488355328) (hn : n.size ≤ 140737488355328) (hk' : k'.size ≤ 140737488355328) (hp' : p'.size ≤ 140737488355328) (hn' : n'.size ≤ 140737488355328) (w : World) (hw : RankTab w) :
    Calls Tryd.prog 4 #[.agg #[.string k, .string p, .string n], .agg #[.string k', .string p', .string n']] w fun e w' => e = .returned (.bool true) ∧ Below w.heap.size w w' := by
  have hlt := hw.lt
  have hb1 := (Below.refl w.heap.size w).alloc (Nat.le_refl _) (.cells #[.string k, .string p, .string n] 29)
  have hb2 := hb1.alloc hb1.size (.cells #[.string k', .string p', .string n'] 29)
  have e1 : (w.alloc (.cells #[.string k, .string p, .string n] 29)).heap.size = w.heap.size + 1 := by simp
  obtain ⟨a0, a1, a2⟩ := Box3.new w #[.string k, .string p, .string n] 29 _ _ _ rfl
  obtain ⟨y0, y1, y2⟩ := Box3.new (w.alloc (.cells #[.string k, .string p, .string n] 29)) #[.string k', .string p', .string n'] 29 _ _ _ rfl
  rw [e1] at y0 y1 y2
  have hbb := (Below.refl (w.alloc (.cells #[.string k, .string p, .string n] 29)).heap.size _).alloc (Nat.le_refl _) (.cells #[.string k', .string p', .string n'] 29)
  have x0 := cells_frame hbb a0
  have x1 := cells_frame hbb a1
  have x2 := cells_frame hbb a2
  have RT : Hid (∀ w', Below ((w.alloc (.cells #[.string k, .string p, .string n] 29)).alloc (.cells #[.string k', .string p', .string n'] 29)).heap.size ((w.alloc (.cells #[.string k, .string p, .string n] 29)).alloc (.cells #[.string k', .string p', .string n'] 29)) w' → RankTab w') := fun w' h => (hw.later hb2 hlt).later h (Nat.lt_of_lt_of_le hlt hb2.size)
  have HB2 := Lib.hid hb2
  have SA := Lib.hid (And.intro hk (And.intro hp hn))
  have SB := Lib.hid (And.intro hk' (And.intro hp' hn'))
  clear hb1 hb2 e1 a0 a1 a2 hbb hw hlt
  go_enter Tryd.func4, Tryd.ntmps4
  go_upto_region 1 with fail
  generalize ((w.alloc (.cells #[.string k, .string p, .string n] 29)).alloc (.cells #[.string k', .string p', .string n'] 29)) = v at *
  have XA : Hid (∀ v', Below v.heap.size v v' → v'.cell? ⟨w.heap.size, 0, none⟩ = some (.string k) ∧ v'.cell? ⟨w.heap.size, 1, none⟩ = some (.string p) ∧ v'.cell? ⟨w.heap.size, 2, none⟩ = some (.string n) ∧ v'.cell? ⟨w.heap.size + 1, 0, none⟩ = some (.string k') ∧ v'.cell? ⟨w.heap.size + 1, 1, none⟩ = some (.string p') ∧ v'.cell? ⟨w.heap.size + 1, 2, none⟩ = some (.string n')) := fun v' h =>
    ⟨cells_frame h x0, cells_frame h x1, cells_frame h x2, cells_frame h y0, cells_frame h y1, cells_frame h y2⟩
  have AW : Hid (∀ wb, Below v.heap.size v wb → Calls Tryd.prog 7 #[] wb fun e w' => e = .returned (.bool true) ∧ Below wb.heap.size wb w') := fun wb h => l12awake_any wb (RT.out wb h)
  have RR1 : Hid (∀ wb, Calls Tryd.prog 17 #[.agg #[.string k, .string p, .string n]] wb fun e w' => e = .returned (.bool (rightO k p n)) ∧ Below wb.heap.size wb w') := fun wb => r12Right_any k p n hk hp hn wb
  have RR2 : Hid (∀ wb, Calls Tryd.prog 17 #[.agg #[.string k', .string p', .string n']] wb fun e w' => e = .returned (.bool (rightO k' p' n')) ∧ Below wb.heap.size wb w') := fun wb => r12Right_any k' p' n' hk' hp' hn' wb
  by_cases hsum : k.size + p.size + n.size + k'.size + p'.size + n'.size ≤ 500
  case neg =>
    have hg : decide ((500 : Int) < (k.size : Int) + p.size + n.size + k'.size + p'.size + n'.size) = true := decide_eq_true (by omega)
    go_wp2_with (go_at_call 7; refine (AW.out _ (Below.refl _ _)).mono ?_; rintro e w3 ⟨rfl, hb3⟩)
    go_ret
    exact ⟨rfl, bstep HB2.out hb3 HB2.out.size⟩
  case pos =>
    have hg : decide ((500 : Int) < (k.size : Int) + p.size + n.size + k'.size + p'.size + n'.size) = false := decide_eq_false (by omega)
    cases hr1 : rightO k p n with
    | false =>
      rw [hr1] at RR1
      clear hr1
      go_upto_region 2 with (first
        | (go_at_call 17; refine (RR1.out _).mono ?_; rintro e w3 ⟨rfl, hb3⟩; have HB3 := Lib.hid hb3; clear hb3))
      go_wp2_with (go_at_call 7; refine (AW.out _ HB3.out).mono ?_; rintro e w4 ⟨rfl, hb4⟩)
      go_ret
      exact ⟨rfl, bstep (bstep HB2.out HB3.out HB2.out.size) hb4 (bstep HB2.out HB3.out HB2.out.size).size⟩
    | true =>
      rw [hr1] at RR1
      cases hr2 : rightO k' p' n' with
      | false =>
        rw [hr2] at RR2
        clear hr1 hr2
        go_upto_region 2 with (first
          | (go_at_call 17; (with_reducible refine (RR2.out _).mono ?_); rintro e w3 ⟨rfl, hb3⟩; have HB3 := Lib.hid (bstep HB1.out hb3 HB1.out.size); clear hb3)
          | (go_at_call 17; (with_reducible refine (RR1.out _).mono ?_); rintro e w1 ⟨rfl, hb1⟩; have HB1 := Lib.hid hb1
             obtain ⟨y0, y1, y2⟩ := (XA.out _ hb1).2.2.2
             clear hb1))
        go_wp2_with (go_at_call 7; refine (AW.out _ HB3.out).mono ?_; rintro e w4 ⟨rfl, hb4⟩)
        go_ret
        exact ⟨rfl, bstep (bstep HB2.out HB3.out HB2.out.size) hb4 (bstep HB2.out HB3.out HB2.out.size).size⟩
      | true =>
        rw [hr2] at RR2
        obtain ⟨E, hE⟩ : ∃ E, E = decide (k = k' ∧ p = p' ∧ n = n') := ⟨_, rfl⟩
        have q1 := key_eq hr1 hr2 E hE
        have q3 := cmp_eq E hE
        have hrg := cmpO_range k p n k' p' n'
        have q4 := cmpO_anti k p n k' p' n'
        have hrk := fun h => cmpO_rank (k := k) (p := p) (n := n) (k' := k') (p' := p') (n' := n') h
        have hle1 := rank_le k
        have hle2 := rank_le k'
        have KA : Hid (∀ wb, Below v.heap.size v wb → Calls Tryd.prog 12 #[.agg #[.string k, .string p, .string n]] wb fun e w' => e = .returned (.string (keyO k p n)) ∧ Below wb.heap.size wb w') := fun wb _ => oKey_any k p n hk hp hn wb
        have KB : Hid (∀ wb, Below v.heap.size v wb → Calls Tryd.prog 12 #[.agg #[.string k', .string p', .string n']] wb fun e w' => e = .returned (.string (keyO k' p' n')) ∧ Below wb.heap.size wb w') := fun wb _ => oKey_any k' p' n' hk' hp' hn' wb
        have CA : Hid (∀ wb, Below v.heap.size v wb → Calls Tryd.prog 18 #[.agg #[.string k, .string p, .string n], .agg #[.string k', .string p', .string n']] wb fun e w' => e = .returned (.int .i64 (cmpO k p n k' p' n')) ∧ Below wb.heap.size wb w') := fun wb h => oCompare_any k p n k' p' n' wb (RT.out wb h)
        have CB : Hid (∀ wb, Below v.heap.size v wb → Calls Tryd.prog 18 #[.agg #[.string k', .string p', .string n'], .agg #[.string k, .string p, .string n]] wb fun e w' => e = .returned (.int .i64 (cmpO k' p' n' k p n)) ∧ Below wb.heap.size wb w') := fun wb h => oCompare_any k' p' n' k p n wb (RT.out wb h)
        have RA : Hid (∀ wb, Below v.heap.size v wb → Calls Tryd.prog 19 #[.string k] wb fun e w' => e = .returned (.int .i64 (rankO k)) ∧ w' = wb) := fun wb h => oRank_any k wb (RT.out wb h)
        have RB : Hid (∀ wb, Below v.heap.size v wb → Calls Tryd.prog 19 #[.string k'] wb fun e w' => e = .returned (.int .i64 (rankO k')) ∧ w' = wb) := fun wb h => oRank_any k' wb (RT.out wb h)
        generalize keyO k p n = ka at *
        generalize keyO k' p' n' = kb at *
        generalize cmpO k p n k' p' n' = c at *
        generalize cmpO k' p' n' k p n = d at *
        generalize rankO k = ra at *
        generalize rankO k' = rb at *
        have Q1 := Lib.hid q1
        have Q3 := Lib.hid q3
        have QQ := Lib.hid (id_cases E hE)
        clear hr1 hr2 q1 q3 hE
        go_upto_region 3 with (first
          | (go_at_call 17; (with_reducible refine (RR2.out _).mono ?_); rintro e w3 ⟨rfl, hb3⟩; have HB3 := Lib.hid (bstep HB1.out hb3 HB1.out.size); obtain ⟨x0, x1, x2, y0, y1, y2⟩ := XA.out _ HB3.out; clear hb3)
          | (go_at_call 17; (with_reducible refine (RR1.out _).mono ?_); rintro e w1 ⟨rfl, hb1⟩; have HB1 := Lib.hid hb1
             obtain ⟨y0, y1, y2⟩ := (XA.out _ hb1).2.2.2
             clear hb1))
        go_upto_region 4 with (go_at_call 18; refine (CA.out _ HB3.out).mono ?_; rintro e w5 ⟨rfl, hb5⟩; have HBV := Lib.hid (bstep HB3.out hb5 HB3.out.size); clear hb5)
        clear x0 x1 x2 y0 y1 y2
        have Q4 : Hid (Value.int .i64 (IntKind.i64.wrap (-c)) = .int .i64 d) := by
          show _ = _
          rw [q4, IntWalk.i64_in _ (by omega)]
        by_cases hG : rb ≤ ra
        case pos =>
          have Q5 : Hid (decide ((rb : Int) ≤ (ra : Int)) = true) := decide_eq_true (by omega)
          refine wp_region_specsS v 42 (fun i => match i with | 0 => 44 | 1 => 45 | 2 => 46 | 3 => 47 | 4 => 48 | 5 => 49 | 6 => 50 | 7 => 51 | 8 => 52 | 9 => 53 | 10 => 54 | 11 => 55 | 12 => 56 | 13 => 57 | 14 => 58 | 15 => 59 | 16 => 60 | 17 => 61 | 18 => 62 | 19 => 63 | 20 => 64 | 21 => 65 | 22 => 66 | 23 => 67 | 24 => 68 | 25 => 69 | 26 => 70 | 27 => 71 | 28 => 72 | 29 => 73 | 30 => 74 | 31 => 75 | 32 => 76 | 33 => 77 | 34 => 78 | 35 => 79 | 36 => 80 | 37 => 81 | 38 => 82 | 39 => 83 | 40 => 84 | 41 => 4 | _ => 0) (fun i => match i with | 37 => true | 38 => true | _ => false) (fun i x wx => match i with | 0 => x = .bool true | 1 => x = .bool true | 2 => x = .agg #[.string k, .string p, .string n] | 3 => x = .string ka | 4 => x = .agg #[.string k', .string p', .string n'] | 5 => x = .string kb | 6 => x = .bool E | 7 => x = .agg #[.string k, .string p, .string n] | 8 => x = .agg #[.string k', .string p', .string n'] | 9 => x = .bool E | 10 => x = .bool true | 11 => x = .bool true | 12 => x = .bool true | 13 => x = .int .i64 c | 14 => x = .bool E | 15 => x = .agg #[.string k, .string p, .string n] | 16 => x = .agg #[.string k', .string p', .string n'] | 17 => x = .bool E | 18 => x = .bool true | 19 => x = .bool true | 20 => x = .bool true | 21 => x = .agg #[.string k', .string p', .string n'] | 22 => x = .agg #[.string k, .string p, .string n] | 23 => x = .int .i64 d | 24 => x = .int .i64 c | 25 => x = .int .i64 d | 26 => x = .bool true | 27 => x = .bool true | 28 => x = .bool true | 29 => x = .pointer (some ⟨w.heap.size, 0, none⟩) | 30 => x = .string k | 31 => x = .int .i64 ra | 32 => x = .pointer (some ⟨w.heap.size + 1, 0, none⟩) | 33 => x = .string k' | 34 => x = .int .i64 rb | 35 => x = .bool true | 36 => x = .bool true | 37 => x = undef | 38 => x = undef | 39 => x = .bool true | 40 => x = .bool true | 41 => x = .bool true | _ => True) (by kernel_rfl) (by kernel_rfl) ?s1 (HBV.out) ?s2 ?s3 ?sk ?s4 ?s5
          case s1 => intro i hi; rcases (by omega : i = 0 ∨ i = 1 ∨ i = 2 ∨ i = 3 ∨ i = 4 ∨ i = 5 ∨ i = 6 ∨ i = 7 ∨ i = 8 ∨ i = 9 ∨ i = 10 ∨ i = 11 ∨ i = 12 ∨ i = 13 ∨ i = 14 ∨ i = 15 ∨ i = 16 ∨ i = 17 ∨ i = 18 ∨ i = 19 ∨ i = 20 ∨ i = 21 ∨ i = 22 ∨ i = 23 ∨ i = 24 ∨ i = 25 ∨ i = 26 ∨ i = 27 ∨ i = 28 ∨ i = 29 ∨ i = 30 ∨ i = 31 ∨ i = 32 ∨ i = 33 ∨ i = 34 ∨ i = 35 ∨ i = 36 ∨ i = 37 ∨ i = 38 ∨ i = 39 ∨ i = 40 ∨ i = 41) with rfl | rfl | rfl | rfl | rfl | rfl | rfl | rfl | rfl | rfl | rfl | rfl | rfl | rfl | rfl | rfl | rfl | rfl | rfl | rfl | rfl | rfl | rfl | rfl | rfl | rfl | rfl | rfl | rfl | rfl | rfl | rfl | rfl | rfl | rfl | rfl | rfl | rfl | rfl | rfl | rfl | rfl <;> exact Nat.lt_of_lt_of_le (by decide : _ < 85) (Nat.le_refl 85)
          case s2 =>
            intro i x w1 w2 hb hU
            match i, hU with
            | 0, h | 1, h | 2, h | 3, h | 4, h | 5, h | 6, h | 7, h | 8, h | 9, h | 10, h | 11, h | 12, h | 13, h | 14, h | 15, h | 16, h | 17, h | 18, h | 19, h | 20, h | 21, h | 22, h | 23, h | 24, h | 25, h | 26, h | 27, h | 28, h | 29, h | 30, h | 31, h | 32, h | 33, h | 34, h | 35, h | 36, h | 37, h | 38, h | 39, h | 40, h | 41, h => exact h
            | (n + 42), _ => trivial
          case s3 =>
            intro i o g b ho hg x w hu
            have hi : i < 42 := (Array.getElem?_eq_some_iff.1 ho).1
            rcases (by omega : i = 0 ∨ i = 1 ∨ i = 2 ∨ i = 3 ∨ i = 4 ∨ i = 5 ∨ i = 6 ∨ i = 7 ∨ i = 8 ∨ i = 9 ∨ i = 10 ∨ i = 11 ∨ i = 12 ∨ i = 13 ∨ i = 14 ∨ i = 15 ∨ i = 16 ∨ i = 17 ∨ i = 18 ∨ i = 19 ∨ i = 20 ∨ i = 21 ∨ i = 22 ∨ i = 23 ∨ i = 24 ∨ i = 25 ∨ i = 26 ∨ i = 27 ∨ i = 28 ∨ i = 29 ∨ i = 30 ∨ i = 31 ∨ i = 32 ∨ i = 33 ∨ i = 34 ∨ i = 35 ∨ i = 36 ∨ i = 37 ∨ i = 38 ∨ i = 39 ∨ i = 40 ∨ i = 41) with rfl | rfl | rfl | rfl | rfl | rfl | rfl | rfl | rfl | rfl | rfl | rfl | rfl | rfl | rfl | rfl | rfl | rfl | rfl | rfl | rfl | rfl | rfl | rfl | rfl | rfl | rfl | rfl | rfl | rfl | rfl | rfl | rfl | rfl | rfl | rfl | rfl | rfl | rfl | rfl | rfl | rfl
            · simp at ho; subst ho; cases hg
            · simp at ho; subst ho; cases hg
            · simp at ho; subst ho; cases hg; exact hu
            · simp at ho; subst ho; cases hg; exact hu
            · simp at ho; subst ho; cases hg; exact hu
            · simp at ho; subst ho; cases hg; exact hu
            · simp at ho; subst ho; cases hg; exact hu
            · simp at ho; subst ho; cases hg; exact hu
            · simp at ho; subst ho; cases hg; exact hu
            · simp at ho; subst ho; cases hg; exact hu
            · simp at ho; subst ho; cases hg; exact hu
            · simp at ho; subst ho; cases hg
            · simp at ho; subst ho; cases hg
            · simp at ho; subst ho; cases hg; exact hu
            · simp at ho; subst ho; cases hg; exact hu
            · simp at ho; subst ho; cases hg; exact hu
            · simp at ho; subst ho; cases hg; exact hu
            · simp at ho; subst ho; cases hg; exact hu
            · simp at ho; subst ho; cases hg; exact hu
            · simp at ho; subst ho; cases hg
            · simp at ho; subst ho; cases hg
            · simp at ho; subst ho; cases hg; exact hu
            · simp at ho; subst ho; cases hg; exact hu
            · simp at ho; subst ho; cases hg; exact hu
            · simp at ho; subst ho; cases hg; exact hu
            · simp at ho; subst ho; cases hg; exact hu
            · simp at ho; subst ho; cases hg; exact hu
            · simp at ho; subst ho; cases hg
            · simp at ho; subst ho; cases hg
            · simp at ho; subst ho; cases hg; exact hu
            · simp at ho; subst ho; cases hg; exact hu
            · simp at ho; subst ho; cases hg; exact hu
            · simp at ho; subst ho; cases hg; exact hu
            · simp at ho; subst ho; cases hg; exact hu
            · simp at ho; subst ho; cases hg; exact hu
            · simp at ho; subst ho; cases hg; exact hu
            · simp at ho; subst ho; cases hg; exact hu
            · simp at ho; subst ho; cases hg; exact hu
            · simp at ho; subst ho; cases hg; exact hu
            · simp at ho; subst ho; cases hg; exact hu
            · simp at ho; subst ho; cases hg
            · simp at ho; subst ho; cases hg
          case sk =>
            intro i o ho hs
            have hi : i < 42 := (Array.getElem?_eq_some_iff.1 ho).1
            rcases (by omega : i = 0 ∨ i = 1 ∨ i = 2 ∨ i = 3 ∨ i = 4 ∨ i = 5 ∨ i = 6 ∨ i = 7 ∨ i = 8 ∨ i = 9 ∨ i = 10 ∨ i = 11 ∨ i = 12 ∨ i = 13 ∨ i = 14 ∨ i = 15 ∨ i = 16 ∨ i = 17 ∨ i = 18 ∨ i = 19 ∨ i = 20 ∨ i = 21 ∨ i = 22 ∨ i = 23 ∨ i = 24 ∨ i = 25 ∨ i = 26 ∨ i = 27 ∨ i = 28 ∨ i = 29 ∨ i = 30 ∨ i = 31 ∨ i = 32 ∨ i = 33 ∨ i = 34 ∨ i = 35 ∨ i = 36 ∨ i = 37 ∨ i = 38 ∨ i = 39 ∨ i = 40 ∨ i = 41) with rfl | rfl | rfl | rfl | rfl | rfl | rfl | rfl | rfl | rfl | rfl | rfl | rfl | rfl | rfl | rfl | rfl | rfl | rfl | rfl | rfl | rfl | rfl | rfl | rfl | rfl | rfl | rfl | rfl | rfl | rfl | rfl | rfl | rfl | rfl | rfl | rfl | rfl | rfl | rfl | rfl | rfl
            · cases hs
            · cases hs
            · cases hs
            · cases hs
            · cases hs
            · cases hs
            · cases hs
            · cases hs
            · cases hs
            · cases hs
            · cases hs
            · cases hs
            · cases hs
            · cases hs
            · cases hs
            · cases hs
            · cases hs
            · cases hs
            · cases hs
            · cases hs
            · cases hs
            · cases hs
            · cases hs
            · cases hs
            · cases hs
            · cases hs
            · cases hs
            · cases hs
            · cases hs
            · cases hs
            · cases hs
            · cases hs
            · cases hs
            · cases hs
            · cases hs
            · cases hs
            · cases hs
            · simp at ho; subst ho; exact ⟨⟨_, rfl⟩, fun _ => rfl⟩
            · simp at ho; subst ho; exact ⟨⟨_, rfl⟩, fun _ => rfl⟩
            · cases hs
            · cases hs
            · cases hs
          case s4 =>
            intro i o ac wb K' ho hi hs hA hB hdep hK
            have sv2 : ac.tmps[2]?.getD undef = .pointer (some ⟨w.heap.size, 0, none⟩) := hA.sl (t := 2) (by decide)
            have sv3 : ac.tmps[3]?.getD undef = .pointer (some ⟨w.heap.size + 1, 0, none⟩) := hA.sl (t := 3) (by decide)
            have sv5 : ac.tmps[5]?.getD undef = .int .i64 c := hA.sl (t := 5) (by decide)
            obtain ⟨x0, x1, x2, y0, y1, y2⟩ := XA.out wb hB
            rcases (by omega : i = 0 ∨ i = 1 ∨ i = 2 ∨ i = 3 ∨ i = 4 ∨ i = 5 ∨ i = 6 ∨ i = 7 ∨ i = 8 ∨ i = 9 ∨ i = 10 ∨ i = 11 ∨ i = 12 ∨ i = 13 ∨ i = 14 ∨ i = 15 ∨ i = 16 ∨ i = 17 ∨ i = 18 ∨ i = 19 ∨ i = 20 ∨ i = 21 ∨ i = 22 ∨ i = 23 ∨ i = 24 ∨ i = 25 ∨ i = 26 ∨ i = 27 ∨ i = 28 ∨ i = 29 ∨ i = 30 ∨ i = 31 ∨ i = 32 ∨ i = 33 ∨ i = 34 ∨ i = 35 ∨ i = 36 ∨ i = 37 ∨ i = 38 ∨ i = 39 ∨ i = 40 ∨ i = 41) with rfl | rfl | rfl | rfl | rfl | rfl | rfl | rfl | rfl | rfl | rfl | rfl | rfl | rfl | rfl | rfl | rfl | rfl | rfl | rfl | rfl | rfl | rfl | rfl | rfl | rfl | rfl | rfl | rfl | rfl | rfl | rfl | rfl | rfl | rfl | rfl | rfl | rfl | rfl | rfl | rfl | rfl
            · clear hs
              simp at ho
              subst ho
              clear hdep hA
              go_simp
              refine (AW.out wb hB).mono ?_
              rintro e w5 ⟨rfl, hb5⟩
              exact hK _ w5 hb5 rfl
            · clear hs
              simp at ho
              subst ho
              have y0 : ac.tmps[44]?.getD undef = .bool true := hdep { on := 0, ground := .data } (by simp) rfl
              clear hdep hA
              go_simp
              exact hK _ wb (Below.refl _ _) rfl
            · clear hs
              simp at ho
              subst ho
              clear hdep hA
              go_simp
              exact hK _ wb (Below.refl _ _) rfl
            · clear hs
              simp at ho
              subst ho
              have y2 : ac.tmps[46]?.getD undef = .agg #[.string k, .string p, .string n] := hdep { on := 2, ground := .data } (by simp) rfl
              clear hdep hA
              go_simp
              refine (KA.out wb hB).mono ?_
              rintro e w5 ⟨rfl, hb5⟩
              exact hK _ w5 hb5 rfl
            · clear hs
              simp at ho
              subst ho
              clear hdep hA
              go_simp
              exact hK _ wb (Below.refl _ _) rfl
            · clear hs
              simp at ho
              subst ho
              have y4 : ac.tmps[48]?.getD undef = .agg #[.string k', .string p', .string n'] := hdep { on := 4, ground := .data } (by simp) rfl
              clear hdep hA
              go_simp
              refine (KB.out wb hB).mono ?_
              rintro e w5 ⟨rfl, hb5⟩
              exact hK _ w5 hb5 rfl
            · clear hs
              simp at ho
              subst ho
              have y3 : ac.tmps[47]?.getD undef = .string ka := hdep { on := 3, ground := .data } (by simp) rfl
              have y5 : ac.tmps[49]?.getD undef = .string kb := hdep { on := 5, ground := .data } (by simp) rfl
              clear hdep hA
              go_simp
              exact hK _ wb (Below.refl _ _) (congrArg Value.bool Q1.out)
            · clear hs
              simp at ho
              subst ho
              clear hdep hA
              go_simp
              exact hK _ wb (Below.refl _ _) rfl
            · clear hs
              simp at ho
              subst ho
              clear hdep hA
              go_simp
              exact hK _ wb (Below.refl _ _) rfl
            · clear hs
              simp at ho
              subst ho
              have y7 : ac.tmps[51]?.getD undef = .agg #[.string k, .string p, .string n] := hdep { on := 7, ground := .data } (by simp) rfl
              have y8 : ac.tmps[52]?.getD undef = .agg #[.string k', .string p', .string n'] := hdep { on := 8, ground := .data } (by simp) rfl
              clear hdep hA
              rcases QQ.out with ⟨c1, c2, c3, hE⟩ | ⟨c1, hE⟩ | ⟨c1, c2, hE⟩ | ⟨c1, c2, c3, hE⟩
              all_goals
                go_simp
                exact hK _ wb (Below.refl _ _) (congrArg Value.bool hE.symm)
            · clear hs
              simp at ho
              subst ho
              have y6 : ac.tmps[50]?.getD undef = .bool E := hdep { on := 6, ground := .data } (by simp) rfl
              have y9 : ac.tmps[53]?.getD undef = .bool E := hdep { on := 9, ground := .data } (by simp) rfl
              clear hdep hA
              go_simp
              exact hK _ wb (Below.refl _ _) (by simp)
            · clear hs
              simp at ho
              subst ho
              have y1 : ac.tmps[45]?.getD undef = .bool true := hdep { on := 1, ground := .data } (by simp) rfl
              have y10 : ac.tmps[54]?.getD undef = .bool true := hdep { on := 10, ground := .data } (by simp) rfl
              clear hdep hA
              go_simp
              exact hK _ wb (Below.refl _ _) rfl
            · clear hs
              simp at ho
              subst ho
              have y11 : ac.tmps[55]?.getD undef = .bool true := hdep { on := 11, ground := .data } (by simp) rfl
              clear hdep hA
              go_simp
              exact hK _ wb (Below.refl _ _) rfl
            · clear hs
              simp at ho
              subst ho
              clear hdep hA
              go_simp
              exact hK _ wb (Below.refl _ _) rfl
            · clear hs
              simp at ho
              subst ho
              have y13 : ac.tmps[57]?.getD undef = .int .i64 c := hdep { on := 13, ground := .data } (by simp) rfl
              clear hdep hA
              go_simp
              exact hK _ wb (Below.refl _ _) (congrArg Value.bool Q3.out)
            · clear hs
              simp at ho
              subst ho
              clear hdep hA
              go_simp
              exact hK _ wb (Below.refl _ _) rfl
            · clear hs
              simp at ho
              subst ho
              clear hdep hA
              go_simp
              exact hK _ wb (Below.refl _ _) rfl
            · clear hs
              simp at ho
              subst ho
              have y15 : ac.tmps[59]?.getD undef = .agg #[.string k, .string p, .string n] := hdep { on := 15, ground := .data } (by simp) rfl
              have y16 : ac.tmps[60]?.getD undef = .agg #[.string k', .string p', .string n'] := hdep { on := 16, ground := .data } (by simp) rfl
              clear hdep hA
              rcases QQ.out with ⟨c1, c2, c3, hE⟩ | ⟨c1, hE⟩ | ⟨c1, c2, hE⟩ | ⟨c1, c2, c3, hE⟩
              all_goals
                go_simp
                exact hK _ wb (Below.refl _ _) (congrArg Value.bool hE.symm)
            · clear hs
              simp at ho
              subst ho
              have y14 : ac.tmps[58]?.getD undef = .bool E := hdep { on := 14, ground := .data } (by simp) rfl
              have y17 : ac.tmps[61]?.getD undef = .bool E := hdep { on := 17, ground := .data } (by simp) rfl
              clear hdep hA
              go_simp
              exact hK _ wb (Below.refl _ _) (by simp)
            · clear hs
              simp at ho
              subst ho
              have y12 : ac.tmps[56]?.getD undef = .bool true := hdep { on := 12, ground := .data } (by simp) rfl
              have y18 : ac.tmps[62]?.getD undef = .bool true := hdep { on := 18, ground := .data } (by simp) rfl
              clear hdep hA
              go_simp
              exact hK _ wb (Below.refl _ _) rfl
            · clear hs
              simp at ho
              subst ho
              have y19 : ac.tmps[63]?.getD undef = .bool true := hdep { on := 19, ground := .data } (by simp) rfl
              clear hdep hA
              go_simp
              exact hK _ wb (Below.refl _ _) rfl
            · clear hs
              simp at ho
              subst ho
              clear hdep hA
              go_simp
              exact hK _ wb (Below.refl _ _) rfl
            · clear hs
              simp at ho
              subst ho
              clear hdep hA
              go_simp
              exact hK _ wb (Below.refl _ _) rfl
            · clear hs
              simp at ho
              subst ho
              have y21 : ac.tmps[65]?.getD undef = .agg #[.string k', .string p', .string n'] := hdep { on := 21, ground := .data } (by simp) rfl
              have y22 : ac.tmps[66]?.getD undef = .agg #[.string k, .string p, .string n] := hdep { on := 22, ground := .data } (by simp) rfl
              clear hdep hA
              go_simp
              refine (CB.out wb hB).mono ?_
              rintro e w5 ⟨rfl, hb5⟩
              exact hK _ w5 hb5 rfl
            · clear hs
              simp at ho
              subst ho
              clear hdep hA
              go_simp
              exact hK _ wb (Below.refl _ _) rfl
            · clear hs
              simp at ho
              subst ho
              have y24 : ac.tmps[68]?.getD undef = .int .i64 c := hdep { on := 24, ground := .data } (by simp) rfl
              clear hdep hA
              go_simp
              exact hK _ wb (Below.refl _ _) (Q4.out)
            · clear hs
              simp at ho
              subst ho
              have y23 : ac.tmps[67]?.getD undef = .int .i64 d := hdep { on := 23, ground := .data } (by simp) rfl
              have y25 : ac.tmps[69]?.getD undef = .int .i64 d := hdep { on := 25, ground := .data } (by simp) rfl
              clear hdep hA
              go_simp
              exact hK _ wb (Below.refl _ _) (by simp)
            · clear hs
              simp at ho
              subst ho
              have y20 : ac.tmps[64]?.getD undef = .bool true := hdep { on := 20, ground := .data } (by simp) rfl
              have y26 : ac.tmps[70]?.getD undef = .bool true := hdep { on := 26, ground := .data } (by simp) rfl
              clear hdep hA
              go_simp
              exact hK _ wb (Below.refl _ _) rfl
            · clear hs
              simp at ho
              subst ho
              have y27 : ac.tmps[71]?.getD undef = .bool true := hdep { on := 27, ground := .data } (by simp) rfl
              clear hdep hA
              go_simp
              exact hK _ wb (Below.refl _ _) rfl
            · clear hs
              simp at ho
              subst ho
              clear hdep hA
              go_simp
              exact hK _ wb (Below.refl _ _) rfl
            · clear hs
              simp at ho
              subst ho
              have y29 : ac.tmps[73]?.getD undef = .pointer (some ⟨w.heap.size, 0, none⟩) := hdep { on := 29, ground := .data } (by simp) rfl
              clear hdep hA
              go_simp
              exact hK _ wb (Below.refl _ _) rfl
            · clear hs
              simp at ho
              subst ho
              have y30 : ac.tmps[74]?.getD undef = .string k := hdep { on := 30, ground := .data } (by simp) rfl
              clear hdep hA
              go_simp
              refine (RA.out wb hB).mono ?_
              rintro e w5 ⟨rfl, rfl⟩
              exact hK _ _ (Below.refl _ _) rfl
            · clear hs
              simp at ho
              subst ho
              clear hdep hA
              go_simp
              exact hK _ wb (Below.refl _ _) rfl
            · clear hs
              simp at ho
              subst ho
              have y32 : ac.tmps[76]?.getD undef = .pointer (some ⟨w.heap.size + 1, 0, none⟩) := hdep { on := 32, ground := .data } (by simp) rfl
              clear hdep hA
              go_simp
              exact hK _ wb (Below.refl _ _) rfl
            · clear hs
              simp at ho
              subst ho
              have y33 : ac.tmps[77]?.getD undef = .string k' := hdep { on := 33, ground := .data } (by simp) rfl
              clear hdep hA
              go_simp
              refine (RB.out wb hB).mono ?_
              rintro e w5 ⟨rfl, rfl⟩
              exact hK _ _ (Below.refl _ _) rfl
            · clear hs
              simp at ho
              subst ho
              have y31 : ac.tmps[75]?.getD undef = .int .i64 ra := hdep { on := 31, ground := .data } (by simp) rfl
              have y34 : ac.tmps[78]?.getD undef = .int .i64 rb := hdep { on := 34, ground := .data } (by simp) rfl
              clear hdep hA
              go_simp
              exact hK _ wb (Below.refl _ _) rfl
            · clear hs
              simp at ho
              subst ho
              have y35 : ac.tmps[79]?.getD undef = .bool true := hdep { on := 35, ground := .data } (by simp) rfl
              clear hdep hA
              go_simp
              exact hK _ wb (Below.refl _ _) (rfl)
            · cases hs
            · cases hs
            · clear hs
              simp at ho
              subst ho
              have y36 : ac.tmps[80]?.getD undef = .bool true := hdep { on := 36, ground := .data } (by simp) rfl
              have y38 : ac.tmps[82]?.getD undef = undef := hdep { on := 38, ground := .data } (by simp) rfl
              clear hdep hA
              go_simp
              exact hK _ wb (Below.refl _ _) rfl
            · clear hs
              simp at ho
              subst ho
              have y28 : ac.tmps[72]?.getD undef = .bool true := hdep { on := 28, ground := .data } (by simp) rfl
              have y39 : ac.tmps[83]?.getD undef = .bool true := hdep { on := 39, ground := .data } (by simp) rfl
              clear hdep hA
              go_simp
              exact hK _ wb (Below.refl _ _) rfl
            · clear hs
              simp at ho
              subst ho
              have y40 : ac.tmps[84]?.getD undef = .bool true := hdep { on := 40, ground := .data } (by simp) rfl
              clear hdep hA
              go_simp
              exact hK _ wb (Below.refl _ _) rfl
          case s5 =>
            intro ac wn hA hB hU
            have hs : slots 42 (fun i => match i with | 0 => 44 | 1 => 45 | 2 => 46 | 3 => 47 | 4 => 48 | 5 => 49 | 6 => 50 | 7 => 51 | 8 => 52 | 9 => 53 | 10 => 54 | 11 => 55 | 12 => 56 | 13 => 57 | 14 => 58 | 15 => 59 | 16 => 60 | 17 => 61 | 18 => 62 | 19 => 63 | 20 => 64 | 21 => 65 | 22 => 66 | 23 => 67 | 24 => 68 | 25 => 69 | 26 => 70 | 27 => 71 | 28 => 72 | 29 => 73 | 30 => 74 | 31 => 75 | 32 => 76 | 33 => 77 | 34 => 78 | 35 => 79 | 36 => 80 | 37 => 81 | 38 => 82 | 39 => 83 | 40 => 84 | 41 => 4 | _ => 0) = [44, 45, 46, 47, 48, 49, 50, 51, 52, 53, 54, 55, 56, 57, 58, 59, 60, 61, 62, 63, 64, 65, 66, 67, 68, 69, 70, 71, 72, 73, 74, 75, 76, 77, 78, 79, 80, 81, 82, 83, 84, 4] := by rfl
            rw [hs] at hA
            have hac := hA.act (fun t ht => by
              have h8 : t = 44 ∨ t = 45 ∨ t = 46 ∨ t = 47 ∨ t = 48 ∨ t = 49 ∨ t = 50 ∨ t = 51 ∨ t = 52 ∨ t = 53 ∨ t = 54 ∨ t = 55 ∨ t = 56 ∨ t = 57 ∨ t = 58 ∨ t = 59 ∨ t = 60 ∨ t = 61 ∨ t = 62 ∨ t = 63 ∨ t = 64 ∨ t = 65 ∨ t = 66 ∨ t = 67 ∨ t = 68 ∨ t = 69 ∨ t = 70 ∨ t = 71 ∨ t = 72 ∨ t = 73 ∨ t = 74 ∨ t = 75 ∨ t = 76 ∨ t = 77 ∨ t = 78 ∨ t = 79 ∨ t = 80 ∨ t = 81 ∨ t = 82 ∨ t = 83 ∨ t = 84 ∨ t = 4 := by simpa using ht
              rcases h8 with rfl | rfl | rfl | rfl | rfl | rfl | rfl | rfl | rfl | rfl | rfl | rfl | rfl | rfl | rfl | rfl | rfl | rfl | rfl | rfl | rfl | rfl | rfl | rfl | rfl | rfl | rfl | rfl | rfl | rfl | rfl | rfl | rfl | rfl | rfl | rfl | rfl | rfl | rfl | rfl | rfl | rfl <;> exact Nat.lt_of_lt_of_le (by decide : _ < 85) (Nat.le_refl 85))
            rw [List.foldl_cons, List.foldl_cons, List.foldl_cons, List.foldl_cons, List.foldl_cons, List.foldl_cons, List.foldl_cons, List.foldl_cons, List.foldl_cons, List.foldl_cons, List.foldl_cons, List.foldl_cons, List.foldl_cons, List.foldl_cons, List.foldl_cons, List.foldl_cons, List.foldl_cons, List.foldl_cons, List.foldl_cons, List.foldl_cons, List.foldl_cons, List.foldl_cons, List.foldl_cons, List.foldl_cons, List.foldl_cons, List.foldl_cons, List.foldl_cons, List.foldl_cons, List.foldl_cons, List.foldl_cons, List.foldl_cons, List.foldl_cons, List.foldl_cons, List.foldl_cons, List.foldl_cons, List.foldl_cons, List.foldl_cons, List.foldl_cons, List.foldl_cons, List.foldl_cons, List.foldl_cons, List.foldl_cons, List.foldl_nil] at hac
            have HBN := Lib.hid (bstep HB2.out hB HB2.out.size)
            have z4 : sl ac 4 = .bool true := hU 41 (by omega)
            clear hU hB hs
            generalize sl ac 44 = x44 at hac z4
            generalize sl ac 45 = x45 at hac z4
            generalize sl ac 46 = x46 at hac z4
            generalize sl ac 47 = x47 at hac z4
            generalize sl ac 48 = x48 at hac z4
            generalize sl ac 49 = x49 at hac z4
            generalize sl ac 50 = x50 at hac z4
            generalize sl ac 51 = x51 at hac z4
            generalize sl ac 52 = x52 at hac z4
            generalize sl ac 53 = x53 at hac z4
            generalize sl ac 54 = x54 at hac z4
            generalize sl ac 55 = x55 at hac z4
            generalize sl ac 56 = x56 at hac z4
            generalize sl ac 57 = x57 at hac z4
            generalize sl ac 58 = x58 at hac z4
            generalize sl ac 59 = x59 at hac z4
            generalize sl ac 60 = x60 at hac z4
            generalize sl ac 61 = x61 at hac z4
            generalize sl ac 62 = x62 at hac z4
            generalize sl ac 63 = x63 at hac z4
            generalize sl ac 64 = x64 at hac z4
            generalize sl ac 65 = x65 at hac z4
            generalize sl ac 66 = x66 at hac z4
            generalize sl ac 67 = x67 at hac z4
            generalize sl ac 68 = x68 at hac z4
            generalize sl ac 69 = x69 at hac z4
            generalize sl ac 70 = x70 at hac z4
            generalize sl ac 71 = x71 at hac z4
            generalize sl ac 72 = x72 at hac z4
            generalize sl ac 73 = x73 at hac z4
            generalize sl ac 74 = x74 at hac z4
            generalize sl ac 75 = x75 at hac z4
            generalize sl ac 76 = x76 at hac z4
            generalize sl ac 77 = x77 at hac z4
            generalize sl ac 78 = x78 at hac z4
            generalize sl ac 79 = x79 at hac z4
            generalize sl ac 80 = x80 at hac z4
            generalize sl ac 81 = x81 at hac z4
            generalize sl ac 82 = x82 at hac z4
            generalize sl ac 83 = x83 at hac z4
            generalize sl ac 84 = x84 at hac z4
            generalize sl ac 4 = x4 at hac z4
            clear hA
            subst z4
            subst hac
            simp only [Act.put, List.setIfInBounds_toArray, List.set_cons_succ, List.set_cons_zero]
            go_wp2_with fail
            go_ret
            exact ⟨rfl, HBN.out⟩
        case neg =>
          have Q5 : Hid (decide ((rb : Int) ≤ (ra : Int)) = false) := decide_eq_false (by omega)
          have Q6 : Hid (decide (c < 0) = true) := decide_eq_true (hrk (by omega))
          refine wp_region_specsS v 42 (fun i => match i with | 0 => 44 | 1 => 45 | 2 => 46 | 3 => 47 | 4 => 48 | 5 => 49 | 6 => 50 | 7 => 51 | 8 => 52 | 9 => 53 | 10 => 54 | 11 => 55 | 12 => 56 | 13 => 57 | 14 => 58 | 15 => 59 | 16 => 60 | 17 => 61 | 18 => 62 | 19 => 63 | 20 => 64 | 21 => 65 | 22 => 66 | 23 => 67 | 24 => 68 | 25 => 69 | 26 => 70 | 27 => 71 | 28 => 72 | 29 => 73 | 30 => 74 | 31 => 75 | 32 => 76 | 33 => 77 | 34 => 78 | 35 => 79 | 36 => 80 | 37 => 81 | 38 => 82 | 39 => 83 | 40 => 84 | 41 => 4 | _ => 0) (fun i => match i with  | _ => false) (fun i x wx => match i with | 0 => x = .bool true | 1 => x = .bool true | 2 => x = .agg #[.string k, .string p, .string n] | 3 => x = .string ka | 4 => x = .agg #[.string k', .string p', .string n'] | 5 => x = .string kb | 6 => x = .bool E | 7 => x = .agg #[.string k, .string p, .string n] | 8 => x = .agg #[.string k', .string p', .string n'] | 9 => x = .bool E | 10 => x = .bool true | 11 => x = .bool true | 12 => x = .bool true | 13 => x = .int .i64 c | 14 => x = .bool E | 15 => x = .agg #[.string k, .string p, .string n] | 16 => x = .agg #[.string k', .string p', .string n'] | 17 => x = .bool E | 18 => x = .bool true | 19 => x = .bool true | 20 => x = .bool true | 21 => x = .agg #[.string k', .string p', .string n'] | 22 => x = .agg #[.string k, .string p, .string n] | 23 => x = .int .i64 d | 24 => x = .int .i64 c | 25 => x = .int .i64 d | 26 => x = .bool true | 27 => x = .bool true | 28 => x = .bool true | 29 => x = .pointer (some ⟨w.heap.size, 0, none⟩) | 30 => x = .string k | 31 => x = .int .i64 ra | 32 => x = .pointer (some ⟨w.heap.size + 1, 0, none⟩) | 33 => x = .string k' | 34 => x = .int .i64 rb | 35 => x = .bool false | 36 => x = .bool false | 37 => x = .int .i64 c | 38 => x = .bool true | 39 => x = .bool true | 40 => x = .bool true | 41 => x = .bool true | _ => True) (by kernel_rfl) (by kernel_rfl) ?s1 (HBV.out) ?s2 ?s3 ?sk ?s4 ?s5
          case s1 => intro i hi; rcases (by omega : i = 0 ∨ i = 1 ∨ i = 2 ∨ i = 3 ∨ i = 4 ∨ i = 5 ∨ i = 6 ∨ i = 7 ∨ i = 8 ∨ i = 9 ∨ i = 10 ∨ i = 11 ∨ i = 12 ∨ i = 13 ∨ i = 14 ∨ i = 15 ∨ i = 16 ∨ i = 17 ∨ i = 18 ∨ i = 19 ∨ i = 20 ∨ i = 21 ∨ i = 22 ∨ i = 23 ∨ i = 24 ∨ i = 25 ∨ i = 26 ∨ i = 27 ∨ i = 28 ∨ i = 29 ∨ i = 30 ∨ i = 31 ∨ i = 32 ∨ i = 33 ∨ i = 34 ∨ i = 35 ∨ i = 36 ∨ i = 37 ∨ i = 38 ∨ i = 39 ∨ i = 40 ∨ i = 41) with rfl | rfl | rfl | rfl | rfl | rfl | rfl | rfl | rfl | rfl | rfl | rfl | rfl | rfl | rfl | rfl | rfl | rfl | rfl | rfl | rfl | rfl | rfl | rfl | rfl | rfl | rfl | rfl | rfl | rfl | rfl | rfl | rfl | rfl | rfl | rfl | rfl | rfl | rfl | rfl | rfl | rfl <;> exact Nat.lt_of_lt_of_le (by decide : _ < 85) (Nat.le_refl 85)
          case s2 =>
            intro i x w1 w2 hb hU
            match i, hU with
            | 0, h | 1, h | 2, h | 3, h | 4, h | 5, h | 6, h | 7, h | 8, h | 9, h | 10, h | 11, h | 12, h | 13, h | 14, h | 15, h | 16, h | 17, h | 18, h | 19, h | 20, h | 21, h | 22, h | 23, h | 24, h | 25, h | 26, h | 27, h | 28, h | 29, h | 30, h | 31, h | 32, h | 33, h | 34, h | 35, h | 36, h | 37, h | 38, h | 39, h | 40, h | 41, h => exact h
            | (n + 42), _ => trivial
          case s3 =>
            intro i o g b ho hg x w hu
            have hi : i < 42 := (Array.getElem?_eq_some_iff.1 ho).1
            rcases (by omega : i = 0 ∨ i = 1 ∨ i = 2 ∨ i = 3 ∨ i = 4 ∨ i = 5 ∨ i = 6 ∨ i = 7 ∨ i = 8 ∨ i = 9 ∨ i = 10 ∨ i = 11 ∨ i = 12 ∨ i = 13 ∨ i = 14 ∨ i = 15 ∨ i = 16 ∨ i = 17 ∨ i = 18 ∨ i = 19 ∨ i = 20 ∨ i = 21 ∨ i = 22 ∨ i = 23 ∨ i = 24 ∨ i = 25 ∨ i = 26 ∨ i = 27 ∨ i = 28 ∨ i = 29 ∨ i = 30 ∨ i = 31 ∨ i = 32 ∨ i = 33 ∨ i = 34 ∨ i = 35 ∨ i = 36 ∨ i = 37 ∨ i = 38 ∨ i = 39 ∨ i = 40 ∨ i = 41) with rfl | rfl | rfl | rfl | rfl | rfl | rfl | rfl | rfl | rfl | rfl | rfl | rfl | rfl | rfl | rfl | rfl | rfl | rfl | rfl | rfl | rfl | rfl | rfl | rfl | rfl | rfl | rfl | rfl | rfl | rfl | rfl | rfl | rfl | rfl | rfl | rfl | rfl | rfl | rfl | rfl | rfl
            · simp at ho; subst ho; cases hg
            · simp at ho; subst ho; cases hg
            · simp at ho; subst ho; cases hg; exact hu
            · simp at ho; subst ho; cases hg; exact hu
            · simp at ho; subst ho; cases hg; exact hu
            · simp at ho; subst ho; cases hg; exact hu
            · simp at ho; subst ho; cases hg; exact hu
            · simp at ho; subst ho; cases hg; exact hu
            · simp at ho; subst ho; cases hg; exact hu
            · simp at ho; subst ho; cases hg; exact hu
            · simp at ho; subst ho; cases hg; exact hu
            · simp at ho; subst ho; cases hg
            · simp at ho; subst ho; cases hg
            · simp at ho; subst ho; cases hg; exact hu
            · simp at ho; subst ho; cases hg; exact hu
            · simp at ho; subst ho; cases hg; exact hu
            · simp at ho; subst ho; cases hg; exact hu
            · simp at ho; subst ho; cases hg; exact hu
            · simp at ho; subst ho; cases hg; exact hu
            · simp at ho; subst ho; cases hg
            · simp at ho; subst ho; cases hg
            · simp at ho; subst ho; cases hg; exact hu
            · simp at ho; subst ho; cases hg; exact hu
            · simp at ho; subst ho; cases hg; exact hu
            · simp at ho; subst ho; cases hg; exact hu
            · simp at ho; subst ho; cases hg; exact hu
            · simp at ho; subst ho; cases hg; exact hu
            · simp at ho; subst ho; cases hg
            · simp at ho; subst ho; cases hg
            · simp at ho; subst ho; cases hg; exact hu
            · simp at ho; subst ho; cases hg; exact hu
            · simp at ho; subst ho; cases hg; exact hu
            · simp at ho; subst ho; cases hg; exact hu
            · simp at ho; subst ho; cases hg; exact hu
            · simp at ho; subst ho; cases hg; exact hu
            · simp at ho; subst ho; cases hg; exact hu
            · simp at ho; subst ho; cases hg; exact hu
            · simp at ho; subst ho; cases hg; exact hu
            · simp at ho; subst ho; cases hg; exact hu
            · simp at ho; subst ho; cases hg; exact hu
            · simp at ho; subst ho; cases hg
            · simp at ho; subst ho; cases hg
          case sk =>
            intro i o ho hs
            have hi : i < 42 := (Array.getElem?_eq_some_iff.1 ho).1
            rcases (by omega : i = 0 ∨ i = 1 ∨ i = 2 ∨ i = 3 ∨ i = 4 ∨ i = 5 ∨ i = 6 ∨ i = 7 ∨ i = 8 ∨ i = 9 ∨ i = 10 ∨ i = 11 ∨ i = 12 ∨ i = 13 ∨ i = 14 ∨ i = 15 ∨ i = 16 ∨ i = 17 ∨ i = 18 ∨ i = 19 ∨ i = 20 ∨ i = 21 ∨ i = 22 ∨ i = 23 ∨ i = 24 ∨ i = 25 ∨ i = 26 ∨ i = 27 ∨ i = 28 ∨ i = 29 ∨ i = 30 ∨ i = 31 ∨ i = 32 ∨ i = 33 ∨ i = 34 ∨ i = 35 ∨ i = 36 ∨ i = 37 ∨ i = 38 ∨ i = 39 ∨ i = 40 ∨ i = 41) with rfl | rfl | rfl | rfl | rfl | rfl | rfl | rfl | rfl | rfl | rfl | rfl | rfl | rfl | rfl | rfl | rfl | rfl | rfl | rfl | rfl | rfl | rfl | rfl | rfl | rfl | rfl | rfl | rfl | rfl | rfl | rfl | rfl | rfl | rfl | rfl | rfl | rfl | rfl | rfl | rfl | rfl
            · cases hs
            · cases hs
            · cases hs
            · cases hs
            · cases hs
            · cases hs
            · cases hs
            · cases hs
            · cases hs
            · cases hs
            · cases hs
            · cases hs
            · cases hs
            · cases hs
            · cases hs
            · cases hs
            · cases hs
            · cases hs
            · cases hs
            · cases hs
            · cases hs
            · cases hs
            · cases hs
            · cases hs
            · cases hs
            · cases hs
            · cases hs
            · cases hs
            · cases hs
            · cases hs
            · cases hs
            · cases hs
            · cases hs
            · cases hs
            · cases hs
            · cases hs
            · cases hs
            · cases hs
            · cases hs
            · cases hs
            · cases hs
            · cases hs
          case s4 =>
            intro i o ac wb K' ho hi hs hA hB hdep hK
            have sv2 : ac.tmps[2]?.getD undef = .pointer (some ⟨w.heap.size, 0, none⟩) := hA.sl (t := 2) (by decide)
            have sv3 : ac.tmps[3]?.getD undef = .pointer (some ⟨w.heap.size + 1, 0, none⟩) := hA.sl (t := 3) (by decide)
            have sv5 : ac.tmps[5]?.getD undef = .int .i64 c := hA.sl (t := 5) (by decide)
            obtain ⟨x0, x1, x2, y0, y1, y2⟩ := XA.out wb hB
            rcases (by omega : i = 0 ∨ i = 1 ∨ i = 2 ∨ i = 3 ∨ i = 4 ∨ i = 5 ∨ i = 6 ∨ i = 7 ∨ i = 8 ∨ i = 9 ∨ i = 10 ∨ i = 11 ∨ i = 12 ∨ i = 13 ∨ i = 14 ∨ i = 15 ∨ i = 16 ∨ i = 17 ∨ i = 18 ∨ i = 19 ∨ i = 20 ∨ i = 21 ∨ i = 22 ∨ i = 23 ∨ i = 24 ∨ i = 25 ∨ i = 26 ∨ i = 27 ∨ i = 28 ∨ i = 29 ∨ i = 30 ∨ i = 31 ∨ i = 32 ∨ i = 33 ∨ i = 34 ∨ i = 35 ∨ i = 36 ∨ i = 37 ∨ i = 38 ∨ i = 39 ∨ i = 40 ∨ i = 41) with rfl | rfl | rfl | rfl | rfl | rfl | rfl | rfl | rfl | rfl | rfl | rfl | rfl | rfl | rfl | rfl | rfl | rfl | rfl | rfl | rfl | rfl | rfl | rfl | rfl | rfl | rfl | rfl | rfl | rfl | rfl | rfl | rfl | rfl | rfl | rfl | rfl | rfl | rfl | rfl | rfl | rfl
            · clear hs
              simp at ho
              subst ho
              clear hdep hA
              go_simp
              refine (AW.out wb hB).mono ?_
              rintro e w5 ⟨rfl, hb5⟩
              exact hK _ w5 hb5 rfl
            · clear hs
              simp at ho
              subst ho
              have y0 : ac.tmps[44]?.getD undef = .bool true := hdep { on := 0, ground := .data } (by simp) rfl
              clear hdep hA
              go_simp
              exact hK _ wb (Below.refl _ _) rfl
            · clear hs
              simp at ho
              subst ho
              clear hdep hA
              go_simp
              exact hK _ wb (Below.refl _ _) rfl
            · clear hs
              simp at ho
              subst ho
              have y2 : ac.tmps[46]?.getD undef = .agg #[.string k, .string p, .string n] := hdep { on := 2, ground := .data } (by simp) rfl
              clear hdep hA
              go_simp
              refine (KA.out wb hB).mono ?_
              rintro e w5 ⟨rfl, hb5⟩
              exact hK _ w5 hb5 rfl
            · clear hs
              simp at ho
              subst ho
              clear hdep hA
              go_simp
              exact hK _ wb (Below.refl _ _) rfl
            · clear hs
              simp at ho
              subst ho
              have y4 : ac.tmps[48]?.getD undef = .agg #[.string k', .string p', .string n'] := hdep { on := 4, ground := .data } (by simp) rfl
              clear hdep hA
              go_simp
              refine (KB.out wb hB).mono ?_
              rintro e w5 ⟨rfl, hb5⟩
              exact hK _ w5 hb5 rfl
            · clear hs
              simp at ho
              subst ho
              have y3 : ac.tmps[47]?.getD undef = .string ka := hdep { on := 3, ground := .data } (by simp) rfl
              have y5 : ac.tmps[49]?.getD undef = .string kb := hdep { on := 5, ground := .data } (by simp) rfl
              clear hdep hA
              go_simp
              exact hK _ wb (Below.refl _ _) (congrArg Value.bool Q1.out)
            · clear hs
              simp at ho
              subst ho
              clear hdep hA
              go_simp
              exact hK _ wb (Below.refl _ _) rfl
            · clear hs
              simp at ho
              subst ho
              clear hdep hA
              go_simp
              exact hK _ wb (Below.refl _ _) rfl
            · clear hs
              simp at ho
              subst ho
              have y7 : ac.tmps[51]?.getD undef = .agg #[.string k, .string p, .string n] := hdep { on := 7, ground := .data } (by simp) rfl
              have y8 : ac.tmps[52]?.getD undef = .agg #[.string k', .string p', .string n'] := hdep { on := 8, ground := .data } (by simp) rfl
              clear hdep hA
              rcases QQ.out with ⟨c1, c2, c3, hE⟩ | ⟨c1, hE⟩ | ⟨c1, c2, hE⟩ | ⟨c1, c2, c3, hE⟩
              all_goals
                go_simp
                exact hK _ wb (Below.refl _ _) (congrArg Value.bool hE.symm)
            · clear hs
              simp at ho
              subst ho
              have y6 : ac.tmps[50]?.getD undef = .bool E := hdep { on := 6, ground := .data } (by simp) rfl
              have y9 : ac.tmps[53]?.getD undef = .bool E := hdep { on := 9, ground := .data } (by simp) rfl
              clear hdep hA
              go_simp
              exact hK _ wb (Below.refl _ _) (by simp)
            · clear hs
              simp at ho
              subst ho
              have y1 : ac.tmps[45]?.getD undef = .bool true := hdep { on := 1, ground := .data } (by simp) rfl
              have y10 : ac.tmps[54]?.getD undef = .bool true := hdep { on := 10, ground := .data } (by simp) rfl
              clear hdep hA
              go_simp
              exact hK _ wb (Below.refl _ _) rfl
            · clear hs
              simp at ho
              subst ho
              have y11 : ac.tmps[55]?.getD undef = .bool true := hdep { on := 11, ground := .data } (by simp) rfl
              clear hdep hA
              go_simp
              exact hK _ wb (Below.refl _ _) rfl
            · clear hs
              simp at ho
              subst ho
              clear hdep hA
              go_simp
              exact hK _ wb (Below.refl _ _) rfl
            · clear hs
              simp at ho
              subst ho
              have y13 : ac.tmps[57]?.getD undef = .int .i64 c := hdep { on := 13, ground := .data } (by simp) rfl
              clear hdep hA
              go_simp
              exact hK _ wb (Below.refl _ _) (congrArg Value.bool Q3.out)
            · clear hs
              simp at ho
              subst ho
              clear hdep hA
              go_simp
              exact hK _ wb (Below.refl _ _) rfl
            · clear hs
              simp at ho
              subst ho
              clear hdep hA
              go_simp
              exact hK _ wb (Below.refl _ _) rfl
            · clear hs
              simp at ho
              subst ho
              have y15 : ac.tmps[59]?.getD undef = .agg #[.string k, .string p, .string n] := hdep { on := 15, ground := .data } (by simp) rfl
              have y16 : ac.tmps[60]?.getD undef = .agg #[.string k', .string p', .string n'] := hdep { on := 16, ground := .data } (by simp) rfl
              clear hdep hA
              rcases QQ.out with ⟨c1, c2, c3, hE⟩ | ⟨c1, hE⟩ | ⟨c1, c2, hE⟩ | ⟨c1, c2, c3, hE⟩
              all_goals
                go_simp
                exact hK _ wb (Below.refl _ _) (congrArg Value.bool hE.symm)
            · clear hs
              simp at ho
              subst ho
              have y14 : ac.tmps[58]?.getD undef = .bool E := hdep { on := 14, ground := .data } (by simp) rfl
              have y17 : ac.tmps[61]?.getD undef = .bool E := hdep { on := 17, ground := .data } (by simp) rfl
              clear hdep hA
              go_simp
              exact hK _ wb (Below.refl _ _) (by simp)
            · clear hs
              simp at ho
              subst ho
              have y12 : ac.tmps[56]?.getD undef = .bool true := hdep { on := 12, ground := .data } (by simp) rfl
              have y18 : ac.tmps[62]?.getD undef = .bool true := hdep { on := 18, ground := .data } (by simp) rfl
              clear hdep hA
              go_simp
              exact hK _ wb (Below.refl _ _) rfl
            · clear hs
              simp at ho
              subst ho
              have y19 : ac.tmps[63]?.getD undef = .bool true := hdep { on := 19, ground := .data } (by simp) rfl
              clear hdep hA
              go_simp
              exact hK _ wb (Below.refl _ _) rfl
            · clear hs
              simp at ho
              subst ho
              clear hdep hA
              go_simp
              exact hK _ wb (Below.refl _ _) rfl
            · clear hs
              simp at ho
              subst ho
              clear hdep hA
              go_simp
              exact hK _ wb (Below.refl _ _) rfl
            · clear hs
              simp at ho
              subst ho
              have y21 : ac.tmps[65]?.getD undef = .agg #[.string k', .string p', .string n'] := hdep { on := 21, ground := .data } (by simp) rfl
              have y22 : ac.tmps[66]?.getD undef = .agg #[.string k, .string p, .string n] := hdep { on := 22, ground := .data } (by simp) rfl
              clear hdep hA
              go_simp
              refine (CB.out wb hB).mono ?_
              rintro e w5 ⟨rfl, hb5⟩
              exact hK _ w5 hb5 rfl
            · clear hs
              simp at ho
              subst ho
              clear hdep hA
              go_simp
              exact hK _ wb (Below.refl _ _) rfl
            · clear hs
              simp at ho
              subst ho
              have y24 : ac.tmps[68]?.getD undef = .int .i64 c := hdep { on := 24, ground := .data } (by simp) rfl
              clear hdep hA
              go_simp
              exact hK _ wb (Below.refl _ _) (Q4.out)
            · clear hs
              simp at ho
              subst ho
              have y23 : ac.tmps[67]?.getD undef = .int .i64 d := hdep { on := 23, ground := .data } (by simp) rfl
              have y25 : ac.tmps[69]?.getD undef = .int .i64 d := hdep { on := 25, ground := .data } (by simp) rfl
              clear hdep hA
              go_simp
              exact hK _ wb (Below.refl _ _) (by simp)
            · clear hs
              simp at ho
              subst ho
              have y20 : ac.tmps[64]?.getD undef = .bool true := hdep { on := 20, ground := .data } (by simp) rfl
              have y26 : ac.tmps[70]?.getD undef = .bool true := hdep { on := 26, ground := .data } (by simp) rfl
              clear hdep hA
              go_simp
              exact hK _ wb (Below.refl _ _) rfl
            · clear hs
              simp at ho
              subst ho
              have y27 : ac.tmps[71]?.getD undef = .bool true := hdep { on := 27, ground := .data } (by simp) rfl
              clear hdep hA
              go_simp
              exact hK _ wb (Below.refl _ _) rfl
            · clear hs
              simp at ho
              subst ho
              clear hdep hA
              go_simp
              exact hK _ wb (Below.refl _ _) rfl
            · clear hs
              simp at ho
              subst ho
              have y29 : ac.tmps[73]?.getD undef = .pointer (some ⟨w.heap.size, 0, none⟩) := hdep { on := 29, ground := .data } (by simp) rfl
              clear hdep hA
              go_simp
              exact hK _ wb (Below.refl _ _) rfl
            · clear hs
              simp at ho
              subst ho
              have y30 : ac.tmps[74]?.getD undef = .string k := hdep { on := 30, ground := .data } (by simp) rfl
              clear hdep hA
              go_simp
              refine (RA.out wb hB).mono ?_
              rintro e w5 ⟨rfl, rfl⟩
              exact hK _ _ (Below.refl _ _) rfl
            · clear hs
              simp at ho
              subst ho
              clear hdep hA
              go_simp
              exact hK _ wb (Below.refl _ _) rfl
            · clear hs
              simp at ho
              subst ho
              have y32 : ac.tmps[76]?.getD undef = .pointer (some ⟨w.heap.size + 1, 0, none⟩) := hdep { on := 32, ground := .data } (by simp) rfl
              clear hdep hA
              go_simp
              exact hK _ wb (Below.refl _ _) rfl
            · clear hs
              simp at ho
              subst ho
              have y33 : ac.tmps[77]?.getD undef = .string k' := hdep { on := 33, ground := .data } (by simp) rfl
              clear hdep hA
              go_simp
              refine (RB.out wb hB).mono ?_
              rintro e w5 ⟨rfl, rfl⟩
              exact hK _ _ (Below.refl _ _) rfl
            · clear hs
              simp at ho
              subst ho
              have y31 : ac.tmps[75]?.getD undef = .int .i64 ra := hdep { on := 31, ground := .data } (by simp) rfl
              have y34 : ac.tmps[78]?.getD undef = .int .i64 rb := hdep { on := 34, ground := .data } (by simp) rfl
              clear hdep hA
              go_simp
              exact hK _ wb (Below.refl _ _) rfl
            · clear hs
              simp at ho
              subst ho
              have y35 : ac.tmps[79]?.getD undef = .bool false := hdep { on := 35, ground := .data } (by simp) rfl
              clear hdep hA
              go_simp
              exact hK _ wb (Below.refl _ _) (rfl)
            · clear hs
              simp at ho
              subst ho
              clear hdep hA
              go_simp
              exact hK _ wb (Below.refl _ _) rfl
            · clear hs
              simp at ho
              subst ho
              have y37 : ac.tmps[81]?.getD undef = .int .i64 c := hdep { on := 37, ground := .data } (by simp) rfl
              clear hdep hA
              go_simp
              exact hK _ wb (Below.refl _ _) (congrArg Value.bool Q6.out)
            · clear hs
              simp at ho
              subst ho
              have y36 : ac.tmps[80]?.getD undef = .bool false := hdep { on := 36, ground := .data } (by simp) rfl
              have y38 : ac.tmps[82]?.getD undef = .bool true := hdep { on := 38, ground := .data } (by simp) rfl
              clear hdep hA
              go_simp
              exact hK _ wb (Below.refl _ _) rfl
            · clear hs
              simp at ho
              subst ho
              have y28 : ac.tmps[72]?.getD undef = .bool true := hdep { on := 28, ground := .data } (by simp) rfl
              have y39 : ac.tmps[83]?.getD undef = .bool true := hdep { on := 39, ground := .data } (by simp) rfl
              clear hdep hA
              go_simp
              exact hK _ wb (Below.refl _ _) rfl
            · clear hs
              simp at ho
              subst ho
              have y40 : ac.tmps[84]?.getD undef = .bool true := hdep { on := 40, ground := .data } (by simp) rfl
              clear hdep hA
              go_simp
              exact hK _ wb (Below.refl _ _) rfl
          case s5 =>
            intro ac wn hA hB hU
            have hs : slots 42 (fun i => match i with | 0 => 44 | 1 => 45 | 2 => 46 | 3 => 47 | 4 => 48 | 5 => 49 | 6 => 50 | 7 => 51 | 8 => 52 | 9 => 53 | 10 => 54 | 11 => 55 | 12 => 56 | 13 => 57 | 14 => 58 | 15 => 59 | 16 => 60 | 17 => 61 | 18 => 62 | 19 => 63 | 20 => 64 | 21 => 65 | 22 => 66 | 23 => 67 | 24 => 68 | 25 => 69 | 26 => 70 | 27 => 71 | 28 => 72 | 29 => 73 | 30 => 74 | 31 => 75 | 32 => 76 | 33 => 77 | 34 => 78 | 35 => 79 | 36 => 80 | 37 => 81 | 38 => 82 | 39 => 83 | 40 => 84 | 41 => 4 | _ => 0) = [44, 45, 46, 47, 48, 49, 50, 51, 52, 53, 54, 55, 56, 57, 58, 59, 60, 61, 62, 63, 64, 65, 66, 67, 68, 69, 70, 71, 72, 73, 74, 75, 76, 77, 78, 79, 80, 81, 82, 83, 84, 4] := by rfl
            rw [hs] at hA
            have hac := hA.act (fun t ht => by
              have h8 : t = 44 ∨ t = 45 ∨ t = 46 ∨ t = 47 ∨ t = 48 ∨ t = 49 ∨ t = 50 ∨ t = 51 ∨ t = 52 ∨ t = 53 ∨ t = 54 ∨ t = 55 ∨ t = 56 ∨ t = 57 ∨ t = 58 ∨ t = 59 ∨ t = 60 ∨ t = 61 ∨ t = 62 ∨ t = 63 ∨ t = 64 ∨ t = 65 ∨ t = 66 ∨ t = 67 ∨ t = 68 ∨ t = 69 ∨ t = 70 ∨ t = 71 ∨ t = 72 ∨ t = 73 ∨ t = 74 ∨ t = 75 ∨ t = 76 ∨ t = 77 ∨ t = 78 ∨ t = 79 ∨ t = 80 ∨ t = 81 ∨ t = 82 ∨ t = 83 ∨ t = 84 ∨ t = 4 := by simpa using ht
              rcases h8 with rfl | rfl | rfl | rfl | rfl | rfl | rfl | rfl | rfl | rfl | rfl | rfl | rfl | rfl | rfl | rfl | rfl | rfl | rfl | rfl | rfl | rfl | rfl | rfl | rfl | rfl | rfl | rfl | rfl | rfl | rfl | rfl | rfl | rfl | rfl | rfl | rfl | rfl | rfl | rfl | rfl | rfl <;> exact Nat.lt_of_lt_of_le (by decide : _ < 85) (Nat.le_refl 85))
            rw [List.foldl_cons, List.foldl_cons, List.foldl_cons, List.foldl_cons, List.foldl_cons, List.foldl_cons, List.foldl_cons, List.foldl_cons, List.foldl_cons, List.foldl_cons, List.foldl_cons, List.foldl_cons, List.foldl_cons, List.foldl_cons, List.foldl_cons, List.foldl_cons, List.foldl_cons, List.foldl_cons, List.foldl_cons, List.foldl_cons, List.foldl_cons, List.foldl_cons, List.foldl_cons, List.foldl_cons, List.foldl_cons, List.foldl_cons, List.foldl_cons, List.foldl_cons, List.foldl_cons, List.foldl_cons, List.foldl_cons, List.foldl_cons, List.foldl_cons, List.foldl_cons, List.foldl_cons, List.foldl_cons, List.foldl_cons, List.foldl_cons, List.foldl_cons, List.foldl_cons, List.foldl_cons, List.foldl_cons, List.foldl_nil] at hac
            have HBN := Lib.hid (bstep HB2.out hB HB2.out.size)
            have z4 : sl ac 4 = .bool true := hU 41 (by omega)
            clear hU hB hs
            generalize sl ac 44 = x44 at hac z4
            generalize sl ac 45 = x45 at hac z4
            generalize sl ac 46 = x46 at hac z4
            generalize sl ac 47 = x47 at hac z4
            generalize sl ac 48 = x48 at hac z4
            generalize sl ac 49 = x49 at hac z4
            generalize sl ac 50 = x50 at hac z4
            generalize sl ac 51 = x51 at hac z4
            generalize sl ac 52 = x52 at hac z4
            generalize sl ac 53 = x53 at hac z4
            generalize sl ac 54 = x54 at hac z4
            generalize sl ac 55 = x55 at hac z4
            generalize sl ac 56 = x56 at hac z4
            generalize sl ac 57 = x57 at hac z4
            generalize sl ac 58 = x58 at hac z4
            generalize sl ac 59 = x59 at hac z4
            generalize sl ac 60 = x60 at hac z4
            generalize sl ac 61 = x61 at hac z4
            generalize sl ac 62 = x62 at hac z4
            generalize sl ac 63 = x63 at hac z4
            generalize sl ac 64 = x64 at hac z4
            generalize sl ac 65 = x65 at hac z4
            generalize sl ac 66 = x66 at hac z4
            generalize sl ac 67 = x67 at hac z4
            generalize sl ac 68 = x68 at hac z4
            generalize sl ac 69 = x69 at hac z4
            generalize sl ac 70 = x70 at hac z4
            generalize sl ac 71 = x71 at hac z4
            generalize sl ac 72 = x72 at hac z4
            generalize sl ac 73 = x73 at hac z4
            generalize sl ac 74 = x74 at hac z4
            generalize sl ac 75 = x75 at hac z4
            generalize sl ac 76 = x76 at hac z4
            generalize sl ac 77 = x77 at hac z4
            generalize sl ac 78 = x78 at hac z4
            generalize sl ac 79 = x79 at hac z4
            generalize sl ac 80 = x80 at hac z4
            generalize sl ac 81 = x81 at hac z4
            generalize sl ac 82 = x82 at hac z4
            generalize sl ac 83 = x83 at hac z4
            generalize sl ac 84 = x84 at hac z4
            generalize sl ac 4 = x4 at hac z4
            clear hA
            subst z4
            subst hac
            simp only [Act.put, List.setIfInBounds_toArray, List.set_cons_succ, List.set_cons_zero]
            go_wp2_with fail
            go_ret
            exact ⟨rfl, HBN.out⟩

end Go.Proofs.YtbmlmcoepmbelaaDoor
