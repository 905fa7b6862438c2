/-
  FuncsTruths: the law's contract.
-/
import Derived.Test.YtkonkjaabkmecaaGreatDoorFnTruth
import Derived.Test.YtkonkjaabkmecaaGreatDoorRSame
import Derived.Test.YtkonkjaabkmecaaGreatDoorLawOrders
import Derived.Test.YtkonkjaabkmecaaGreatDoorSpecsG
set_option linter.unusedVariables false
set_option linter.unusedSimpArgs false
namespace Go.Proofs.YtkonkjaabkmecaaGreatDoor
open Go.RowKit

theorem good_text {t : T} (h : t.good = true) : t.str.size ≤ 65536 := by
  obtain ⟨k, b, n, s, l, m⟩ := t
  have hp := good_parts h
  rw [T.parts_mk] at hp
  by_cases h1 : kindBad k b n s.toList.isEmpty l.length m.length = true
  · rw [if_pos h1] at hp; cases hp
  · rw [if_neg h1] at hp
    by_cases h2 : textB s = false
    · rw [if_pos h2] at hp; cases hp
    · have h3 : textB s = true := by simpa using h2
      unfold textB at h3
      simp only [Bool.and_eq_true, decide_eq_true_eq] at h3
      exact h3.1
theorem truth_of {w0 : World} {R : Nat → Prop} {t : T} {a0 : Int} {a1 : Bool} {a2 : Int} {a3 : ByteArray} {a4 : Option Addr} {a4l a4c : Nat} {a5 : Option Addr} {a5l a5c : Nat} (h : Lies w0 R t #[.int .i64 a0, .bool a1, .int .i64 a2, .string a3, .slice a4 a4l a4c, .slice a5 a5l a5c]) (w : World) : Calls Tryz.prog 31 #[.agg #[.int .i64 a0, .bool a1, .int .i64 a2, .string a3, .slice a4 a4l a4c, .slice a5 a5l a5c]] w fun e w2 => e = .returned (.bool (trT t)) ∧ Below w.heap.size w w2 := by
  have hct : countsB a0 a1 a2 a3 a4l a5l = trT t := by cases h; rfl
  have h := tTruth_any a0 a1 a2 a3 a4 a4l a4c a5 a5l a5c w
  rw [hct] at h
  exact h
/-- A truth's cells. -/
def BoolOut (b : Bool) (w : World) (e : Ending) (w' : World) : Prop := ∃ la lc ma mc, e = .returned (.agg #[.int .i64 1, .bool b, .int .i64 0, .string ⟨#[]⟩, .slice la 0 lc, .slice ma 0 mc]) ∧ Below w.heap.size w w'
theorem boolOut {f : FuncId} {args : Array Value} {w : World} {b b2 : Bool} (hbb : b2 = b) (h : Calls Tryz.prog f args w (ValOut w (boolT b2))) : Calls Tryz.prog f args w (BoolOut b w) := h.mono fun e w' ⟨ds, h1, hL, hb⟩ => by
  subst hbb
  subst h1
  cases hL
  exact ⟨_, _, _, _, rfl, hb⟩

set_option maxRecDepth 100000 in
set_option maxHeartbeats 8000000 in
theorem funcsTruths_any {w : World} {R1 R2 R3 : Nat → Prop} {t u x : T} {cs ds es : Array Value} (h1 : Lies w R1 t cs) (h2 : Lies w R2 u ds) (h3 : Lies w R3 x es) (hw : FnTab w) :
    Calls Tryz.prog 9 #[.agg cs, .agg ds, .agg es] w fun e w' => e = .returned (.bool true) ∧ Below w.heap.size w w' := by
  obtain ⟨a0, a1, a2, a3, a4, a4l, a4c, a5, a5l, a5c, rfl⟩ := h1.six
  obtain ⟨b0, b1, b2, b3, b4, b4l, b4c, b5, b5l, b5c, rfl⟩ := h2.six
  obtain ⟨c0, c1, c2, c3, c4, c4l, c4c, c5, c5l, c5c, rfl⟩ := h3.six
  have e2 : ((w.alloc (.cells #[.int .i64 a0, .bool a1, .int .i64 a2, .string a3, .slice a4 a4l a4c, .slice a5 a5l a5c] 27)).alloc (.cells #[.int .i64 b0, .bool b1, .int .i64 b2, .string b3, .slice b4 b4l b4c, .slice b5 b5l b5c] 27)).heap.size = w.heap.size + 1 + 1 := by simp
  have hb3 : Below w.heap.size w (((w.alloc (.cells #[.int .i64 a0, .bool a1, .int .i64 a2, .string a3, .slice a4 a4l a4c, .slice a5 a5l a5c] 27)).alloc (.cells #[.int .i64 b0, .bool b1, .int .i64 b2, .string b3, .slice b4 b4l b4c, .slice b5 b5l b5c] 27)).alloc (.cells #[.int .i64 c0, .bool c1, .int .i64 c2, .string c3, .slice c4 c4l c4c, .slice c5 c5l c5c] 27)) := (((Below.refl _ _).alloc (Nat.le_refl _) _).alloc (by simp) _).alloc (by simp; omega) _
  have bx1 : Box6 (((w.alloc (.cells #[.int .i64 a0, .bool a1, .int .i64 a2, .string a3, .slice a4 a4l a4c, .slice a5 a5l a5c] 27)).alloc (.cells #[.int .i64 b0, .bool b1, .int .i64 b2, .string b3, .slice b4 b4l b4c, .slice b5 b5l b5c] 27)).alloc (.cells #[.int .i64 c0, .bool c1, .int .i64 c2, .string c3, .slice c4 c4l c4c, .slice c5 c5l c5c] 27)) w.heap.size #[.int .i64 a0, .bool a1, .int .i64 a2, .string a3, .slice a4 a4l a4c, .slice a5 a5l a5c] := (Box6.new w _ 27).later (((Below.refl (w.heap.size + 1) _).alloc (by simp) _).alloc (by simp) _) (by omega)
  have bx2 : Box6 (((w.alloc (.cells #[.int .i64 a0, .bool a1, .int .i64 a2, .string a3, .slice a4 a4l a4c, .slice a5 a5l a5c] 27)).alloc (.cells #[.int .i64 b0, .bool b1, .int .i64 b2, .string b3, .slice b4 b4l b4c, .slice b5 b5l b5c] 27)).alloc (.cells #[.int .i64 c0, .bool c1, .int .i64 c2, .string c3, .slice c4 c4l c4c, .slice c5 c5l c5c] 27)) (w.heap.size + 1) #[.int .i64 b0, .bool b1, .int .i64 b2, .string b3, .slice b4 b4l b4c, .slice b5 b5l b5c] := by
    have := Box6.new (w.alloc (.cells #[.int .i64 a0, .bool a1, .int .i64 a2, .string a3, .slice a4 a4l a4c, .slice a5 a5l a5c] 27)) #[.int .i64 b0, .bool b1, .int .i64 b2, .string b3, .slice b4 b4l b4c, .slice b5 b5l b5c] 27
    rw [World.size_alloc] at this
    exact this.later ((Below.refl (w.heap.size + 1 + 1) _).alloc (by simp) _) (by omega)
  have bx3 := Box6.new ((w.alloc (.cells #[.int .i64 a0, .bool a1, .int .i64 a2, .string a3, .slice a4 a4l a4c, .slice a5 a5l a5c] 27)).alloc (.cells #[.int .i64 b0, .bool b1, .int .i64 b2, .string b3, .slice b4 b4l b4c, .slice b5 b5l b5c] 27)) #[.int .i64 c0, .bool c1, .int .i64 c2, .string c3, .slice c4 c4l c4c, .slice c5 c5l c5c] 27
  rw [e2] at bx3
  have es3 : (((w.alloc (.cells #[.int .i64 a0, .bool a1, .int .i64 a2, .string a3, .slice a4 a4l a4c, .slice a5 a5l a5c] 27)).alloc (.cells #[.int .i64 b0, .bool b1, .int .i64 b2, .string b3, .slice b4 b4l b4c, .slice b5 b5l b5c] 27)).alloc (.cells #[.int .i64 c0, .bool c1, .int .i64 c2, .string c3, .slice c4 c4l c4c, .slice c5 c5l c5c] 27)).heap.size = w.heap.size + 3 := by simp
  have HV := Lib.hid hb3
  have B1 := Lib.hid bx1
  have B2 := Lib.hid bx2
  have B3 := Lib.hid bx3
  have ES := Lib.hid es3
  have L1 := Lib.hid (h1.later hb3)
  have L2 := Lib.hid (h2.later hb3)
  have L3 := Lib.hid (h3.later hb3)
  have FT := Lib.hid (hw.later hb3)
  clear e2 hb3 bx1 bx2 bx3 es3 h1 h2 h3 hw
  go_enter Tryz.func9, Tryz.ntmps9
  go_upto_region 1 with fail
  generalize (((w.alloc (.cells #[.int .i64 a0, .bool a1, .int .i64 a2, .string a3, .slice a4 a4l a4c, .slice a5 a5l a5c] 27)).alloc (.cells #[.int .i64 b0, .bool b1, .int .i64 b2, .string b3, .slice b4 b4l b4c, .slice b5 b5l b5c] 27)).alloc (.cells #[.int .i64 c0, .bool c1, .int .i64 c2, .string c3, .slice c4 c4l c4c, .slice c5 c5l c5c] 27)) = v at *
  have hvs := Nat.le_of_eq ES.out.symm
  have HAL := Lib.hid ((Below.refl v.heap.size v).alloc (Nat.le_refl _) (.cells #[.int .i64 a0, .bool a1, .int .i64 a2, .string a3, .slice a4 a4l a4c, .slice a5 a5l a5c, .int .i64 b0, .bool b1, .int .i64 b2, .string b3, .slice b4 b4l b4c, .slice b5 b5l b5c, .int .i64 c0, .bool c1, .int .i64 c2, .string c3, .slice c4 c4l c4c, .slice c5 c5l c5c] 27))
  have HR := Lib.hid (right_any (three_values L1.out L2.out L3.out) _ (Below.refl _ _))
  have AW : Hid (∀ w', Below v.heap.size v w' → Calls Tryz.prog 11 #[] w' fun e w2 => e = .returned (.bool true) ∧ Below w'.heap.size w' w2) := fun w' hb => l8awake_any w' (FT.out.later hb)
  obtain ⟨p0, p1, p2, p3, p4, p5⟩ := B1.out.six
  obtain ⟨q0, q1, q2, q3, q4, q5⟩ := B2.out.six
  obtain ⟨r0, r1, r2, r3, r4, r5⟩ := B3.out.six
  cases hg : [t, u, x].all T.good with
  | false =>
    rw [hg] at HR
    clear hg L1 L2 L3 FT
    go_wp2_with (first
      | (go_at_call 10; refine HR.out.mono ?_; rintro e w2 ⟨rfl, hb2⟩; have HB2 := Lib.hid (bstep HAL.out hb2 HAL.out.size); clear hb2)
      | (go_at_call 11; refine (AW.out _ HB2.out).mono ?_; rintro e w3 ⟨rfl, hb3⟩))
    go_ret
    exact ⟨rfl, bstep HV.out (bstep HB2.out hb3 HB2.out.size) HV.out.size⟩
  | true =>
    rw [hg] at HR
    have hst : t.str.size ≤ 65536 := good_text (by simp at hg; exact hg.1)
    have hsu : u.str.size ≤ 65536 := good_text (by simp at hg; exact hg.2.1)
    have HST := Lib.hid hst
    have HSU := Lib.hid hsu
    obtain ⟨rA, hrA⟩ : ∃ r, r = if trT t = true then u else t := ⟨_, rfl⟩
    obtain ⟨rO, hrO⟩ : ∃ r, r = if trT t = true then t else u := ⟨_, rfl⟩
    obtain ⟨rD, hrD⟩ : ∃ r, r = if trT u = true then u else t := ⟨_, rfl⟩
    obtain ⟨rT, hrT⟩ : ∃ r, r = if trT x = true then t else u := ⟨_, rfl⟩
    have NOT : Hid (∀ w', Below v.heap.size v w' → ∀ sb, Box6 w' sb #[.int .i64 a0, .bool a1, .int .i64 a2, .string a3, .slice a4 a4l a4c, .slice a5 a5l a5c] → sb < w'.heap.size → Calls Tryz.prog 29 #[.string ⟨#[110, 111, 116]⟩, .slice (some ⟨sb, 0, none⟩) 1 1] w' (BoolOut (!trT t) w')) := fun w' hb sb h hl => boolOut rfl (truth_not w' (FT.out.later hb) h hl (L1.out.later hb))
    have AND : Hid (∀ w', Below v.heap.size v w' → ∀ sb cl, SliceV w' (fun _ => True) [t, u] (some ⟨sb, 0, none⟩) 2 cl → Calls Tryz.prog 29 #[.string ⟨#[97, 110, 100]⟩, .slice (some ⟨sb, 0, none⟩) 2 2] w' (ValOut w' rA)) := fun w' hb sb cl h => by rw [hrA]; exact truth_and w' (FT.out.later hb) h HST.out HSU.out
    have ORR : Hid (∀ w', Below v.heap.size v w' → ∀ sb cl, SliceV w' (fun _ => True) [t, u] (some ⟨sb, 0, none⟩) 2 cl → Calls Tryz.prog 29 #[.string ⟨#[111, 114]⟩, .slice (some ⟨sb, 0, none⟩) 2 2] w' (ValOut w' rO)) := fun w' hb sb cl h => by rw [hrO]; exact truth_or w' (FT.out.later hb) h HST.out HSU.out
    have DEF : Hid (∀ w', Below v.heap.size v w' → ∀ sb, TwoV w' sb (.int .i64 a0) (.bool a1) (.int .i64 a2) (.string a3) (.slice a4 a4l a4c) (.slice a5 a5l a5c) (.int .i64 b0) (.bool b1) (.int .i64 b2) (.string b3) (.slice b4 b4l b4c) (.slice b5 b5l b5c) → Calls Tryz.prog 29 #[.string ⟨#[100, 101, 102, 97, 117, 108, 116]⟩, .slice (some ⟨sb, 0, none⟩) 2 2] w' (ValOut w' rD)) := fun w' hb sb h => by rw [hrD]; exact truth_default w' (FT.out.later hb) h (L1.out.later hb) (L2.out.later hb) HST.out HSU.out
    have TER : Hid (∀ w', Below v.heap.size v w' → ∀ sb, ThreeV w' sb (.int .i64 a0) (.bool a1) (.int .i64 a2) (.string a3) (.slice a4 a4l a4c) (.slice a5 a5l a5c) (.int .i64 b0) (.bool b1) (.int .i64 b2) (.string b3) (.slice b4 b4l b4c) (.slice b5 b5l b5c) (.int .i64 c0) (.bool c1) (.int .i64 c2) (.string c3) (.slice c4 c4l c4c) (.slice c5 c5l c5c) → Calls Tryz.prog 29 #[.string ⟨#[116, 101, 114, 110, 97, 114, 121]⟩, .slice (some ⟨sb, 0, none⟩) 3 3] w' (ValOut w' rT)) := fun w' hb sb h => by rw [hrT]; exact truth_ternary w' (FT.out.later hb) h (L1.out.later hb) (L2.out.later hb) (L3.out.later hb) HST.out HSU.out
    obtain ⟨e1, he1⟩ : ∃ e, e = (T.cmp t u == 0) := ⟨_, rfl⟩
    have EQQ : Hid (∀ w', Below v.heap.size v w' → ∀ sb, TwoV w' sb (.int .i64 a0) (.bool a1) (.int .i64 a2) (.string a3) (.slice a4 a4l a4c) (.slice a5 a5l a5c) (.int .i64 b0) (.bool b1) (.int .i64 b2) (.string b3) (.slice b4 b4l b4c) (.slice b5 b5l b5c) → Calls Tryz.prog 29 #[.string ⟨#[101, 113]⟩, .slice (some ⟨sb, 0, none⟩) 2 2] w' (BoolOut e1 w')) := fun w' hb sb h => boolOut he1.symm (truth_eq w' (FT.out.later hb) h (L1.out.later hb) (L2.out.later hb))
    have NEE : Hid (∀ w', Below v.heap.size v w' → ∀ sb, TwoV w' sb (.int .i64 a0) (.bool a1) (.int .i64 a2) (.string a3) (.slice a4 a4l a4c) (.slice a5 a5l a5c) (.int .i64 b0) (.bool b1) (.int .i64 b2) (.string b3) (.slice b4 b4l b4c) (.slice b5 b5l b5c) → Calls Tryz.prog 29 #[.string ⟨#[110, 101]⟩, .slice (some ⟨sb, 0, none⟩) 2 2] w' (BoolOut (!e1) w')) := fun w' hb sb h => boolOut (by rw [he1]; rfl) (truth_ne w' (FT.out.later hb) h (L1.out.later hb) (L2.out.later hb))
    have EQS : Hid (∀ w', Below v.heap.size v w' → ∀ sb, TwoV w' sb (.int .i64 a0) (.bool a1) (.int .i64 a2) (.string a3) (.slice a4 a4l a4c) (.slice a5 a5l a5c) (.int .i64 a0) (.bool a1) (.int .i64 a2) (.string a3) (.slice a4 a4l a4c) (.slice a5 a5l a5c) → Calls Tryz.prog 29 #[.string ⟨#[101, 113]⟩, .slice (some ⟨sb, 0, none⟩) 2 2] w' (BoolOut true w')) := fun w' hb sb h => boolOut (by rw [(T.ord t).refl]; rfl) (truth_eq w' (FT.out.later hb) h (L1.out.later hb) (L1.out.later hb))
    have LTS : Hid (∀ w', Below v.heap.size v w' → ∀ sb, TwoV w' sb (.int .i64 a0) (.bool a1) (.int .i64 a2) (.string a3) (.slice a4 a4l a4c) (.slice a5 a5l a5c) (.int .i64 a0) (.bool a1) (.int .i64 a2) (.string a3) (.slice a4 a4l a4c) (.slice a5 a5l a5c) → Calls Tryz.prog 29 #[.string ⟨#[108, 116]⟩, .slice (some ⟨sb, 0, none⟩) 2 2] w' (BoolOut false w')) := fun w' hb sb h => boolOut (by rw [(T.ord t).refl]; rfl) (truth_lt w' (FT.out.later hb) h (L1.out.later hb) (L1.out.later hb))
    have PKA : Hid (∀ w', Below v.heap.size v w' → Calls Tryz.prog 30 #[.bool (trT t), .agg #[.int .i64 b0, .bool b1, .int .i64 b2, .string b3, .slice b4 b4l b4c, .slice b5 b5l b5c], .agg #[.int .i64 a0, .bool a1, .int .i64 a2, .string a3, .slice a4 a4l a4c, .slice a5 a5l a5c]] w' fun e w2 => ∃ ds, e = .returned (.agg ds) ∧ Lies w2 (fun _ => True) rA ds ∧ Below w'.heap.size w' w2) := fun w' hb => by rw [hrA]; exact truths2_any _ w' (L2.out.later hb) (L1.out.later hb)
    have PKO : Hid (∀ w', Below v.heap.size v w' → Calls Tryz.prog 30 #[.bool (trT t), .agg #[.int .i64 a0, .bool a1, .int .i64 a2, .string a3, .slice a4 a4l a4c, .slice a5 a5l a5c], .agg #[.int .i64 b0, .bool b1, .int .i64 b2, .string b3, .slice b4 b4l b4c, .slice b5 b5l b5c]] w' fun e w2 => ∃ ds, e = .returned (.agg ds) ∧ Lies w2 (fun _ => True) rO ds ∧ Below w'.heap.size w' w2) := fun w' hb => by rw [hrO]; exact truths2_any _ w' (L1.out.later hb) (L2.out.later hb)
    have PKD : Hid (∀ w', Below v.heap.size v w' → Calls Tryz.prog 30 #[.bool (trT u), .agg #[.int .i64 b0, .bool b1, .int .i64 b2, .string b3, .slice b4 b4l b4c, .slice b5 b5l b5c], .agg #[.int .i64 a0, .bool a1, .int .i64 a2, .string a3, .slice a4 a4l a4c, .slice a5 a5l a5c]] w' fun e w2 => ∃ ds, e = .returned (.agg ds) ∧ Lies w2 (fun _ => True) rD ds ∧ Below w'.heap.size w' w2) := fun w' hb => by rw [hrD]; exact truths2_any _ w' (L2.out.later hb) (L1.out.later hb)
    have PKT : Hid (∀ w', Below v.heap.size v w' → Calls Tryz.prog 30 #[.bool (trT x), .agg #[.int .i64 a0, .bool a1, .int .i64 a2, .string a3, .slice a4 a4l a4c, .slice a5 a5l a5c], .agg #[.int .i64 b0, .bool b1, .int .i64 b2, .string b3, .slice b4 b4l b4c, .slice b5 b5l b5c]] w' fun e w2 => ∃ ds, e = .returned (.agg ds) ∧ Lies w2 (fun _ => True) rT ds ∧ Below w'.heap.size w' w2) := fun w' hb => by rw [hrT]; exact truths2_any _ w' (L1.out.later hb) (L2.out.later hb)
    have TRA : Hid (∀ w', Calls Tryz.prog 31 #[.agg #[.int .i64 a0, .bool a1, .int .i64 a2, .string a3, .slice a4 a4l a4c, .slice a5 a5l a5c]] w' fun e w2 => e = .returned (.bool (trT t)) ∧ Below w'.heap.size w' w2) := fun w' => truth_of L1.out w'
    have TRB : Hid (∀ w', Calls Tryz.prog 31 #[.agg #[.int .i64 b0, .bool b1, .int .i64 b2, .string b3, .slice b4 b4l b4c, .slice b5 b5l b5c]] w' fun e w2 => e = .returned (.bool (trT u)) ∧ Below w'.heap.size w' w2) := fun w' => truth_of L2.out w'
    have TRC : Hid (∀ w', Calls Tryz.prog 31 #[.agg #[.int .i64 c0, .bool c1, .int .i64 c2, .string c3, .slice c4 c4l c4c, .slice c5 c5l c5c]] w' fun e w2 => e = .returned (.bool (trT x)) ∧ Below w'.heap.size w' w2) := fun w' => truth_of L3.out w'
    clear hg hst hsu hrA hrO hrD hrT he1 HST HSU
    generalize trT t = ta at NOT PKA PKO TRA
    generalize trT u = tb at PKD TRB
    generalize trT x = tc at PKT TRC
    go_upto_region 5 with (go_at_call 10; refine HR.out.mono ?_; rintro e w2 ⟨rfl, hb2⟩; have HB2 := Lib.hid (bstep HAL.out hb2 HAL.out.size); clear hb2)
    clear p0 p1 p2 p3 p4 p5 q0 q1 q2 q3 q4 q5 r0 r1 r2 r3 r4 r5
    obtain ⟨p0, p1, p2, p3, p4, p5⟩ := (B1.out.later HB2.out (by omega)).six
    obtain ⟨q0, q1, q2, q3, q4, q5⟩ := (B2.out.later HB2.out (by omega)).six
    obtain ⟨r0, r1, r2, r3, r4, r5⟩ := (B3.out.later HB2.out (by omega)).six
    refine wp_region_specs3 w2 9 (fun i => match i with | 0 => 19 | 1 => 20 | 2 => 21 | 3 => 22 | 4 => 23 | 5 => 24 | 6 => 9 | 7 => 10 | 8 => 11 | _ => 0) (fun i x wx => match i with | 0 => x = .agg #[.int .i64 a0, .bool a1, .int .i64 a2, .string a3, .slice a4 a4l a4c, .slice a5 a5l a5c] | 1 => x = .bool ta | 2 => x = .agg #[.int .i64 b0, .bool b1, .int .i64 b2, .string b3, .slice b4 b4l b4c, .slice b5 b5l b5c] | 3 => x = .bool tb | 4 => x = .agg #[.int .i64 c0, .bool c1, .int .i64 c2, .string c3, .slice c4 c4l c4c, .slice c5 c5l c5c] | 5 => x = .bool tc | 6 => x = .bool ta | 7 => x = .bool tb | 8 => x = .bool tc | _ => True) (by kernel_rfl) (by kernel_rfl) ?s1 (Below.refl _ _) ?s2 ?s3 ?s4 ?s5
    case s1 => intro i hi; rcases (by omega : i = 0 ∨ i = 1 ∨ i = 2 ∨ i = 3 ∨ i = 4 ∨ i = 5 ∨ i = 6 ∨ i = 7 ∨ i = 8) with rfl | rfl | rfl | rfl | rfl | rfl | rfl | rfl | rfl <;> exact Nat.lt_of_lt_of_le (by decide : _ < 120) (Nat.le_refl 120)
    case s2 =>
      intro i x w1 w2 hb hU
      match i, hU with
      | 1, h => exact h
      | 3, h => exact h
      | 5, h => exact h
      | 0, h | 2, h | 4, h | 6, h | 7, h | 8, h => exact h
      | (n + 9), _ => trivial
    case s3 =>
      intro i o g b ho hg x w hu
      have hi : i < 9 := (Array.getElem?_eq_some_iff.1 ho).1
      rcases (by omega : i = 0 ∨ i = 1 ∨ i = 2 ∨ i = 3 ∨ i = 4 ∨ i = 5 ∨ i = 6 ∨ i = 7 ∨ i = 8) with rfl | rfl | rfl | rfl | rfl | rfl | rfl | rfl | rfl
      · simp at ho; subst ho; cases hg
      · simp at ho; subst ho; cases hg
      · simp at ho; subst ho; cases hg
      · simp at ho; subst ho; cases hg
      · simp at ho; subst ho; cases hg
      · simp at ho; subst ho; cases hg
      · simp at ho; subst ho; cases hg
      · simp at ho; subst ho; cases hg
      · simp at ho; subst ho; cases hg
    case s4 =>
      intro i o ac wb K' ho hi hA hB hdep hK
      have sv3 : ac.tmps[3]?.getD undef = .pointer (some ⟨w.heap.size, 0, none⟩) := hA.sl (t := 3) (by decide)
      have sv4 : ac.tmps[4]?.getD undef = .pointer (some ⟨w.heap.size + 1, 0, none⟩) := hA.sl (t := 4) (by decide)
      have sv5 : ac.tmps[5]?.getD undef = .pointer (some ⟨w.heap.size + 1 + 1, 0, none⟩) := hA.sl (t := 5) (by decide)
      have sv7 : ac.tmps[7]?.getD undef = .func (Fn.func 29) #[] #[] := hA.sl (t := 7) (by decide)
      have sv8 : ac.tmps[8]?.getD undef = .func (Fn.func 30) #[] #[] := hA.sl (t := 8) (by decide)
      have p0 := cells_frame hB p0
      have p1 := cells_frame hB p1
      have p2 := cells_frame hB p2
      have p3 := cells_frame hB p3
      have p4 := cells_frame hB p4
      have p5 := cells_frame hB p5
      have q0 := cells_frame hB q0
      have q1 := cells_frame hB q1
      have q2 := cells_frame hB q2
      have q3 := cells_frame hB q3
      have q4 := cells_frame hB q4
      have q5 := cells_frame hB q5
      have r0 := cells_frame hB r0
      have r1 := cells_frame hB r1
      have r2 := cells_frame hB r2
      have r3 := cells_frame hB r3
      have r4 := cells_frame hB r4
      have r5 := cells_frame hB r5
      rcases (by omega : i = 0 ∨ i = 1 ∨ i = 2 ∨ i = 3 ∨ i = 4 ∨ i = 5 ∨ i = 6 ∨ i = 7 ∨ i = 8) with rfl | rfl | rfl | rfl | rfl | rfl | rfl | rfl | rfl
      · simp at ho
        subst ho
        clear hdep hA
        go_simp
        exact hK _ wb (Below.refl _ _) rfl
      · simp at ho
        subst ho
        have y0 : ac.tmps[19]?.getD undef = .agg #[.int .i64 a0, .bool a1, .int .i64 a2, .string a3, .slice a4 a4l a4c, .slice a5 a5l a5c] := hdep { on := 0, ground := .data } (by simp) rfl
        clear hdep hA
        go_simp
        refine (TRA.out wb).mono ?_
        rintro e w5 ⟨rfl, hb5⟩
        exact hK _ w5 hb5 rfl
      · simp at ho
        subst ho
        clear hdep hA
        go_simp
        exact hK _ wb (Below.refl _ _) rfl
      · simp at ho
        subst ho
        have y2 : ac.tmps[21]?.getD undef = .agg #[.int .i64 b0, .bool b1, .int .i64 b2, .string b3, .slice b4 b4l b4c, .slice b5 b5l b5c] := hdep { on := 2, ground := .data } (by simp) rfl
        clear hdep hA
        go_simp
        refine (TRB.out wb).mono ?_
        rintro e w5 ⟨rfl, hb5⟩
        exact hK _ w5 hb5 rfl
      · simp at ho
        subst ho
        clear hdep hA
        go_simp
        exact hK _ wb (Below.refl _ _) rfl
      · simp at ho
        subst ho
        have y4 : ac.tmps[23]?.getD undef = .agg #[.int .i64 c0, .bool c1, .int .i64 c2, .string c3, .slice c4 c4l c4c, .slice c5 c5l c5c] := hdep { on := 4, ground := .data } (by simp) rfl
        clear hdep hA
        go_simp
        refine (TRC.out wb).mono ?_
        rintro e w5 ⟨rfl, hb5⟩
        exact hK _ w5 hb5 rfl
      · simp at ho
        subst ho
        have y1 : ac.tmps[20]?.getD undef = .bool ta := hdep { on := 1, ground := .data } (by simp) rfl
        clear hdep hA
        go_simp
        exact hK _ wb (Below.refl _ _) rfl
      · simp at ho
        subst ho
        have y3 : ac.tmps[22]?.getD undef = .bool tb := hdep { on := 3, ground := .data } (by simp) rfl
        clear hdep hA
        go_simp
        exact hK _ wb (Below.refl _ _) rfl
      · simp at ho
        subst ho
        have y5 : ac.tmps[24]?.getD undef = .bool tc := hdep { on := 5, ground := .data } (by simp) rfl
        clear hdep hA
        go_simp
        exact hK _ wb (Below.refl _ _) rfl
    case s5 =>
      intro ac wn hA hB hU
      have hs : slots 9 (fun i => match i with | 0 => 19 | 1 => 20 | 2 => 21 | 3 => 22 | 4 => 23 | 5 => 24 | 6 => 9 | 7 => 10 | 8 => 11 | _ => 0) = [19, 20, 21, 22, 23, 24, 9, 10, 11] := by rfl
      rw [hs] at hA
      have hac := hA.act (fun t ht => by
        have h8 : t = 19 ∨ t = 20 ∨ t = 21 ∨ t = 22 ∨ t = 23 ∨ t = 24 ∨ t = 9 ∨ t = 10 ∨ t = 11 := by simpa using ht
        rcases h8 with rfl | rfl | rfl | rfl | rfl | rfl | rfl | rfl | rfl <;> exact Nat.lt_of_lt_of_le (by decide : _ < 120) (Nat.le_refl 120))
      rw [List.foldl_cons, List.foldl_cons, List.foldl_cons, List.foldl_cons, List.foldl_cons, List.foldl_cons, List.foldl_cons, List.foldl_cons, List.foldl_cons, List.foldl_nil] at hac
      have HB6 := Lib.hid (bstep HB2.out hB HB2.out.size)
      have z9 : sl ac 9 = .bool ta := hU 6 (by omega)
      have z10 : sl ac 10 = .bool tb := hU 7 (by omega)
      have z11 : sl ac 11 = .bool tc := hU 8 (by omega)
      clear hU hB
      generalize sl ac 19 = x19 at hac z9 z10 z11
      generalize sl ac 20 = x20 at hac z9 z10 z11
      generalize sl ac 21 = x21 at hac z9 z10 z11
      generalize sl ac 22 = x22 at hac z9 z10 z11
      generalize sl ac 23 = x23 at hac z9 z10 z11
      generalize sl ac 24 = x24 at hac z9 z10 z11
      generalize sl ac 9 = x9 at hac z9 z10 z11
      generalize sl ac 10 = x10 at hac z9 z10 z11
      generalize sl ac 11 = x11 at hac z9 z10 z11
      subst z9
      subst z10
      subst z11
      subst hac
      simp only [Act.put, List.setIfInBounds_toArray, List.set_cons_succ, List.set_cons_zero]
      generalize hwn : wn = w6 at *
      clear hwn
      go_upto_region 6 with fail
      clear p0 p1 p2 p3 p4 p5 q0 q1 q2 q3 q4 q5 r0 r1 r2 r3 r4 r5
      obtain ⟨p0, p1, p2, p3, p4, p5⟩ := (B1.out.later HB6.out (by omega)).six
      obtain ⟨q0, q1, q2, q3, q4, q5⟩ := (B2.out.later HB6.out (by omega)).six
      obtain ⟨r0, r1, r2, r3, r4, r5⟩ := (B3.out.later HB6.out (by omega)).six
      refine wp_region_specs3 w6 35 (fun i => match i with | 0 => 25 | 1 => 26 | 2 => 27 | 3 => 28 | 4 => 29 | 5 => 30 | 6 => 31 | 7 => 32 | 8 => 33 | 9 => 34 | 10 => 35 | 11 => 36 | 12 => 37 | 13 => 38 | 14 => 39 | 15 => 40 | 16 => 41 | 17 => 42 | 18 => 43 | 19 => 44 | 20 => 45 | 21 => 46 | 22 => 47 | 23 => 48 | 24 => 49 | 25 => 50 | 26 => 51 | 27 => 52 | 28 => 53 | 29 => 54 | 30 => 55 | 31 => 56 | 32 => 57 | 33 => 58 | 34 => 59 | _ => 0) (fun i x wx => match i with | 0 => x = .func (Fn.func 29) #[] #[] | 1 => x = .agg #[.int .i64 a0, .bool a1, .int .i64 a2, .string a3, .slice a4 a4l a4c, .slice a5 a5l a5c] | 2 => ∃ sb, x = .slice (some ⟨sb, 0, none⟩) 1 1 ∧ Box6 wx sb #[.int .i64 a0, .bool a1, .int .i64 a2, .string a3, .slice a4 a4l a4c, .slice a5 a5l a5c] ∧ sb < wx.heap.size | 3 => ∃ (la : Option Addr) (lc : Nat) (ma : Option Addr) (mc : Nat), x = .agg #[.int .i64 1, .bool (!ta), .int .i64 0, .string ⟨#[]⟩, .slice la 0 lc, .slice ma 0 mc] | 4 => x = .bool (!ta) | 5 => x = .bool ta | 6 => x = .bool false | 7 => x = .bool false | 8 => x = .func (Fn.func 29) #[] #[] | 9 => x = .agg #[.int .i64 a0, .bool a1, .int .i64 a2, .string a3, .slice a4 a4l a4c, .slice a5 a5l a5c] | 10 => x = .agg #[.int .i64 b0, .bool b1, .int .i64 b2, .string b3, .slice b4 b4l b4c, .slice b5 b5l b5c] | 11 => ∃ sb cl, x = .slice (some ⟨sb, 0, none⟩) 2 2 ∧ SliceV wx (fun _ => True) [t, u] (some ⟨sb, 0, none⟩) 2 cl | 12 => ∃ ds : Array Value, x = .agg ds ∧ Lies wx (fun _ => True) rA ds | 13 => x = .func (Fn.func 30) #[] #[] | 14 => x = .bool ta | 15 => x = .agg #[.int .i64 b0, .bool b1, .int .i64 b2, .string b3, .slice b4 b4l b4c, .slice b5 b5l b5c] | 16 => x = .agg #[.int .i64 a0, .bool a1, .int .i64 a2, .string a3, .slice a4 a4l a4c, .slice a5 a5l a5c] | 17 => ∃ ds : Array Value, x = .agg ds ∧ Lies wx (fun _ => True) rA ds | 18 => x = .bool true | 19 => x = .bool false | 20 => x = .bool false | 21 => x = .bool false | 22 => x = .func (Fn.func 29) #[] #[] | 23 => x = .agg #[.int .i64 a0, .bool a1, .int .i64 a2, .string a3, .slice a4 a4l a4c, .slice a5 a5l a5c] | 24 => x = .agg #[.int .i64 b0, .bool b1, .int .i64 b2, .string b3, .slice b4 b4l b4c, .slice b5 b5l b5c] | 25 => ∃ sb cl, x = .slice (some ⟨sb, 0, none⟩) 2 2 ∧ SliceV wx (fun _ => True) [t, u] (some ⟨sb, 0, none⟩) 2 cl | 26 => ∃ ds : Array Value, x = .agg ds ∧ Lies wx (fun _ => True) rO ds | 27 => x = .func (Fn.func 30) #[] #[] | 28 => x = .bool ta | 29 => x = .agg #[.int .i64 a0, .bool a1, .int .i64 a2, .string a3, .slice a4 a4l a4c, .slice a5 a5l a5c] | 30 => x = .agg #[.int .i64 b0, .bool b1, .int .i64 b2, .string b3, .slice b4 b4l b4c, .slice b5 b5l b5c] | 31 => ∃ ds : Array Value, x = .agg ds ∧ Lies wx (fun _ => True) rO ds | 32 => x = .bool true | 33 => x = .bool false | 34 => x = .bool false | _ => True) (by kernel_rfl) (by kernel_rfl) ?s1 (Below.refl _ _) ?s2 ?s3 ?s4 ?s5
      case s1 => intro i hi; rcases (by omega : i = 0 ∨ i = 1 ∨ i = 2 ∨ i = 3 ∨ i = 4 ∨ i = 5 ∨ i = 6 ∨ i = 7 ∨ i = 8 ∨ i = 9 ∨ i = 10 ∨ i = 11 ∨ i = 12 ∨ i = 13 ∨ i = 14 ∨ i = 15 ∨ i = 16 ∨ i = 17 ∨ i = 18 ∨ i = 19 ∨ i = 20 ∨ i = 21 ∨ i = 22 ∨ i = 23 ∨ i = 24 ∨ i = 25 ∨ i = 26 ∨ i = 27 ∨ i = 28 ∨ i = 29 ∨ i = 30 ∨ i = 31 ∨ i = 32 ∨ i = 33 ∨ i = 34) with rfl | rfl | rfl | rfl | rfl | rfl | rfl | rfl | rfl | rfl | rfl | rfl | rfl | rfl | rfl | rfl | rfl | rfl | rfl | rfl | rfl | rfl | rfl | rfl | rfl | rfl | rfl | rfl | rfl | rfl | rfl | rfl | rfl | rfl | rfl <;> exact Nat.lt_of_lt_of_le (by decide : _ < 120) (Nat.le_refl 120)
      case s2 =>
        intro i x w1 w2 hb hU
        match i, hU with
        | 2, ⟨sb, e, hS, hl⟩ => exact ⟨sb, e, hS.later hb hl, by have := hb.size; omega⟩
        | 3, h => exact h
        | 11, ⟨sb, cl, e, hS⟩ => exact ⟨sb, cl, e, hS.later hb⟩
        | 12, ⟨ds, e, hL⟩ => exact ⟨ds, e, hL.later hb⟩
        | 17, ⟨ds, e, hL⟩ => exact ⟨ds, e, hL.later hb⟩
        | 18, h => exact h
        | 25, ⟨sb, cl, e, hS⟩ => exact ⟨sb, cl, e, hS.later hb⟩
        | 26, ⟨ds, e, hL⟩ => exact ⟨ds, e, hL.later hb⟩
        | 31, ⟨ds, e, hL⟩ => exact ⟨ds, e, hL.later hb⟩
        | 32, h => exact h
        | 0, h | 1, h | 4, h | 5, h | 6, h | 7, h | 8, h | 9, h | 10, h | 13, h | 14, h | 15, h | 16, h | 19, h | 20, h | 21, h | 22, h | 23, h | 24, h | 27, h | 28, h | 29, h | 30, h | 33, h | 34, h => exact h
        | (n + 35), _ => trivial
      case s3 =>
        intro i o g b ho hg x w hu
        have hi : i < 35 := (Array.getElem?_eq_some_iff.1 ho).1
        rcases (by omega : i = 0 ∨ i = 1 ∨ i = 2 ∨ i = 3 ∨ i = 4 ∨ i = 5 ∨ i = 6 ∨ i = 7 ∨ i = 8 ∨ i = 9 ∨ i = 10 ∨ i = 11 ∨ i = 12 ∨ i = 13 ∨ i = 14 ∨ i = 15 ∨ i = 16 ∨ i = 17 ∨ i = 18 ∨ i = 19 ∨ i = 20 ∨ i = 21 ∨ i = 22 ∨ i = 23 ∨ i = 24 ∨ i = 25 ∨ i = 26 ∨ i = 27 ∨ i = 28 ∨ i = 29 ∨ i = 30 ∨ i = 31 ∨ i = 32 ∨ i = 33 ∨ i = 34) with rfl | rfl | rfl | rfl | rfl | rfl | rfl | rfl | rfl | rfl | rfl | rfl | rfl | rfl | rfl | rfl | rfl | rfl | rfl | rfl | rfl | rfl | rfl | rfl | rfl | rfl | rfl | rfl | rfl | rfl | rfl | rfl | rfl | rfl | rfl
        · simp at ho; subst ho; cases hg
        · simp at ho; subst ho; cases hg
        · simp at ho; subst ho; cases hg
        · simp at ho; subst ho; cases hg
        · simp at ho; subst ho; cases hg
        · simp at ho; subst ho; cases hg
        · simp at ho; subst ho; cases hg
        · simp at ho; subst ho; cases hg
        · simp at ho; subst ho; cases hg; exact hu
        · simp at ho; subst ho; cases hg; exact hu
        · simp at ho; subst ho; cases hg; exact hu
        · simp at ho; subst ho; cases hg; exact hu
        · simp at ho; subst ho; cases hg; exact hu
        · simp at ho; subst ho; cases hg; exact hu
        · simp at ho; subst ho; cases hg; exact hu
        · simp at ho; subst ho; cases hg; exact hu
        · simp at ho; subst ho; cases hg; exact hu
        · simp at ho; subst ho; cases hg; exact hu
        · simp at ho; subst ho; cases hg; exact hu
        · simp at ho; subst ho; cases hg; exact hu
        · simp at ho; subst ho; cases hg
        · simp at ho; subst ho; cases hg
        · simp at ho; subst ho; cases hg; exact hu
        · simp at ho; subst ho; cases hg; exact hu
        · simp at ho; subst ho; cases hg; exact hu
        · simp at ho; subst ho; cases hg; exact hu
        · simp at ho; subst ho; cases hg; exact hu
        · simp at ho; subst ho; cases hg; exact hu
        · simp at ho; subst ho; cases hg; exact hu
        · simp at ho; subst ho; cases hg; exact hu
        · simp at ho; subst ho; cases hg; exact hu
        · simp at ho; subst ho; cases hg; exact hu
        · simp at ho; subst ho; cases hg; exact hu
        · simp at ho; subst ho; cases hg; exact hu
        · simp at ho; subst ho; cases hg
      case s4 =>
        intro i o ac wb K' ho hi hA hB hdep hK
        have sv3 : ac.tmps[3]?.getD undef = .pointer (some ⟨w.heap.size, 0, none⟩) := hA.sl (t := 3) (by decide)
        have sv4 : ac.tmps[4]?.getD undef = .pointer (some ⟨w.heap.size + 1, 0, none⟩) := hA.sl (t := 4) (by decide)
        have sv5 : ac.tmps[5]?.getD undef = .pointer (some ⟨w.heap.size + 1 + 1, 0, none⟩) := hA.sl (t := 5) (by decide)
        have sv7 : ac.tmps[7]?.getD undef = .func (Fn.func 29) #[] #[] := hA.sl (t := 7) (by decide)
        have sv8 : ac.tmps[8]?.getD undef = .func (Fn.func 30) #[] #[] := hA.sl (t := 8) (by decide)
        have sv9 : ac.tmps[9]?.getD undef = .bool ta := hA.sl (t := 9) (by decide)
        have sv10 : ac.tmps[10]?.getD undef = .bool tb := hA.sl (t := 10) (by decide)
        have sv11 : ac.tmps[11]?.getD undef = .bool tc := hA.sl (t := 11) (by decide)
        have p0 := cells_frame hB p0
        have p1 := cells_frame hB p1
        have p2 := cells_frame hB p2
        have p3 := cells_frame hB p3
        have p4 := cells_frame hB p4
        have p5 := cells_frame hB p5
        have q0 := cells_frame hB q0
        have q1 := cells_frame hB q1
        have q2 := cells_frame hB q2
        have q3 := cells_frame hB q3
        have q4 := cells_frame hB q4
        have q5 := cells_frame hB q5
        have r0 := cells_frame hB r0
        have r1 := cells_frame hB r1
        have r2 := cells_frame hB r2
        have r3 := cells_frame hB r3
        have r4 := cells_frame hB r4
        have r5 := cells_frame hB r5
        rcases (by omega : i = 0 ∨ i = 1 ∨ i = 2 ∨ i = 3 ∨ i = 4 ∨ i = 5 ∨ i = 6 ∨ i = 7 ∨ i = 8 ∨ i = 9 ∨ i = 10 ∨ i = 11 ∨ i = 12 ∨ i = 13 ∨ i = 14 ∨ i = 15 ∨ i = 16 ∨ i = 17 ∨ i = 18 ∨ i = 19 ∨ i = 20 ∨ i = 21 ∨ i = 22 ∨ i = 23 ∨ i = 24 ∨ i = 25 ∨ i = 26 ∨ i = 27 ∨ i = 28 ∨ i = 29 ∨ i = 30 ∨ i = 31 ∨ i = 32 ∨ i = 33 ∨ i = 34) with rfl | rfl | rfl | rfl | rfl | rfl | rfl | rfl | rfl | rfl | rfl | rfl | rfl | rfl | rfl | rfl | rfl | rfl | rfl | rfl | rfl | rfl | rfl | rfl | rfl | rfl | rfl | rfl | rfl | rfl | rfl | rfl | rfl | rfl | rfl
        · simp at ho
          subst ho
          clear hdep hA
          go_simp
          exact hK _ wb (Below.refl _ _) rfl
        · simp at ho
          subst ho
          clear hdep hA
          go_simp
          exact hK _ wb (Below.refl _ _) rfl
        · simp at ho
          subst ho
          have y1 : ac.tmps[26]?.getD undef = .agg #[.int .i64 a0, .bool a1, .int .i64 a2, .string a3, .slice a4 a4l a4c, .slice a5 a5l a5c] := hdep { on := 1, ground := .data } (by simp) rfl
          clear hdep hA
          go_simp
          exact hK _ _ ((Below.refl _ _).alloc (Nat.le_refl _) _) ⟨wb.heap.size, rfl, Box6.new wb _ 27, by simp⟩
        · simp at ho
          subst ho
          have y0 : ac.tmps[25]?.getD undef = .func (Fn.func 29) #[] #[] := hdep { on := 0, ground := .data } (by simp) rfl
          obtain ⟨sby2, y2, hSy2, hly2⟩ := hdep { on := 2, ground := .data } (by simp) rfl
          have y2 : ac.tmps[27]?.getD undef = _ := y2
          clear hdep hA
          go_simp
          refine (NOT.out wb (bstep HB6.out hB HB6.out.size) sby2 hSy2 hly2).mono ?_
          rintro e w5 ⟨la, lc, ma, mc, rfl, hb5⟩
          exact hK _ w5 hb5 ⟨la, lc, ma, mc, rfl⟩
        · simp at ho
          subst ho
          obtain ⟨lay3, lcy3, may3, mcy3, y3⟩ := hdep { on := 3, ground := .data } (by simp) rfl
          have y3 : ac.tmps[28]?.getD undef = _ := y3
          clear hdep hA
          go_simp
          exact hK _ wb (Below.refl _ _) rfl
        · simp at ho
          subst ho
          clear hdep hA
          go_simp
          exact hK _ wb (Below.refl _ _) rfl
        · simp at ho
          subst ho
          have y4 : ac.tmps[29]?.getD undef = .bool (!ta) := hdep { on := 4, ground := .data } (by simp) rfl
          have y5 : ac.tmps[30]?.getD undef = .bool ta := hdep { on := 5, ground := .data } (by simp) rfl
          clear hdep hA
          go_simp
          exact hK _ wb (Below.refl _ _) (by cases ta <;> rfl)
        · simp at ho
          subst ho
          have y6 : ac.tmps[31]?.getD undef = .bool false := hdep { on := 6, ground := .data } (by simp) rfl
          clear hdep hA
          go_simp
          exact hK _ wb (Below.refl _ _) rfl
        · simp at ho
          subst ho
          clear hdep hA
          go_simp
          exact hK _ wb (Below.refl _ _) rfl
        · simp at ho
          subst ho
          clear hdep hA
          go_simp
          exact hK _ wb (Below.refl _ _) rfl
        · simp at ho
          subst ho
          clear hdep hA
          go_simp
          exact hK _ wb (Below.refl _ _) rfl
        · simp at ho
          subst ho
          have y9 : ac.tmps[34]?.getD undef = .agg #[.int .i64 a0, .bool a1, .int .i64 a2, .string a3, .slice a4 a4l a4c, .slice a5 a5l a5c] := hdep { on := 9, ground := .data } (by simp) rfl
          have y10 : ac.tmps[35]?.getD undef = .agg #[.int .i64 b0, .bool b1, .int .i64 b2, .string b3, .slice b4 b4l b4c, .slice b5 b5l b5c] := hdep { on := 10, ground := .data } (by simp) rfl
          clear hdep hA
          go_simp
          exact hK _ _ ((Below.refl _ _).alloc (Nat.le_refl _) _) ⟨wb.heap.size, _, rfl, two_values (L1.out.later (bstep HB6.out hB HB6.out.size)) (L2.out.later (bstep HB6.out hB HB6.out.size))⟩
        · simp at ho
          subst ho
          have y8 : ac.tmps[33]?.getD undef = .func (Fn.func 29) #[] #[] := hdep { on := 8, ground := .data } (by simp) rfl
          obtain ⟨sby11, cly11, y11, hSy11⟩ := hdep { on := 11, ground := .data } (by simp) rfl
          have y11 : ac.tmps[36]?.getD undef = _ := y11
          clear hdep hA
          go_simp
          refine (AND.out wb (bstep HB6.out hB HB6.out.size) sby11 cly11 hSy11).mono ?_
          rintro e w5 ⟨ds, rfl, hL, hb5⟩
          exact hK _ w5 hb5 ⟨ds, rfl, hL.weaken fun _ _ => trivial⟩
        · simp at ho
          subst ho
          clear hdep hA
          go_simp
          exact hK _ wb (Below.refl _ _) rfl
        · simp at ho
          subst ho
          clear hdep hA
          go_simp
          exact hK _ wb (Below.refl _ _) rfl
        · simp at ho
          subst ho
          clear hdep hA
          go_simp
          exact hK _ wb (Below.refl _ _) rfl
        · simp at ho
          subst ho
          clear hdep hA
          go_simp
          exact hK _ wb (Below.refl _ _) rfl
        · simp at ho
          subst ho
          have y13 : ac.tmps[38]?.getD undef = .func (Fn.func 30) #[] #[] := hdep { on := 13, ground := .data } (by simp) rfl
          have y14 : ac.tmps[39]?.getD undef = .bool ta := hdep { on := 14, ground := .data } (by simp) rfl
          have y15 : ac.tmps[40]?.getD undef = .agg #[.int .i64 b0, .bool b1, .int .i64 b2, .string b3, .slice b4 b4l b4c, .slice b5 b5l b5c] := hdep { on := 15, ground := .data } (by simp) rfl
          have y16 : ac.tmps[41]?.getD undef = .agg #[.int .i64 a0, .bool a1, .int .i64 a2, .string a3, .slice a4 a4l a4c, .slice a5 a5l a5c] := hdep { on := 16, ground := .data } (by simp) rfl
          clear hdep hA
          go_simp
          refine (PKA.out wb (bstep HB6.out hB HB6.out.size) ).mono ?_
          rintro e w5 ⟨ds, rfl, hL, hb5⟩
          exact hK _ w5 hb5 ⟨ds, rfl, hL.weaken fun _ _ => trivial⟩
        · simp at ho
          subst ho
          obtain ⟨dsy12, y12, hLy12⟩ := hdep { on := 12, ground := .data } (by simp) rfl
          have y12 : ac.tmps[37]?.getD undef = _ := y12
          obtain ⟨dsy17, y17, hLy17⟩ := hdep { on := 17, ground := .data } (by simp) rfl
          have y17 : ac.tmps[42]?.getD undef = _ := y17
          clear hdep hA
          go_simp
          have hsm := rSame_any hLy12 hLy17 wb (Below.refl _ _)
          rw [T.same_self] at hsm
          refine hsm.mono ?_
          rintro e w5 ⟨rfl, hb5⟩
          exact hK _ w5 hb5 rfl
        · simp at ho
          subst ho
          have y18 : ac.tmps[43]?.getD undef = .bool true := hdep { on := 18, ground := .data } (by simp) rfl
          clear hdep hA
          go_simp
          exact hK _ wb (Below.refl _ _) rfl
        · simp at ho
          subst ho
          have y7 : ac.tmps[32]?.getD undef = .bool false := hdep { on := 7, ground := .data } (by simp) rfl
          have y19 : ac.tmps[44]?.getD undef = .bool false := hdep { on := 19, ground := .data } (by simp) rfl
          clear hdep hA
          go_simp
          exact hK _ wb (Below.refl _ _) rfl
        · simp at ho
          subst ho
          have y20 : ac.tmps[45]?.getD undef = .bool false := hdep { on := 20, ground := .data } (by simp) rfl
          clear hdep hA
          go_simp
          exact hK _ wb (Below.refl _ _) rfl
        · simp at ho
          subst ho
          clear hdep hA
          go_simp
          exact hK _ wb (Below.refl _ _) rfl
        · simp at ho
          subst ho
          clear hdep hA
          go_simp
          exact hK _ wb (Below.refl _ _) rfl
        · simp at ho
          subst ho
          clear hdep hA
          go_simp
          exact hK _ wb (Below.refl _ _) rfl
        · simp at ho
          subst ho
          have y23 : ac.tmps[48]?.getD undef = .agg #[.int .i64 a0, .bool a1, .int .i64 a2, .string a3, .slice a4 a4l a4c, .slice a5 a5l a5c] := hdep { on := 23, ground := .data } (by simp) rfl
          have y24 : ac.tmps[49]?.getD undef = .agg #[.int .i64 b0, .bool b1, .int .i64 b2, .string b3, .slice b4 b4l b4c, .slice b5 b5l b5c] := hdep { on := 24, ground := .data } (by simp) rfl
          clear hdep hA
          go_simp
          exact hK _ _ ((Below.refl _ _).alloc (Nat.le_refl _) _) ⟨wb.heap.size, _, rfl, two_values (L1.out.later (bstep HB6.out hB HB6.out.size)) (L2.out.later (bstep HB6.out hB HB6.out.size))⟩
        · simp at ho
          subst ho
          have y22 : ac.tmps[47]?.getD undef = .func (Fn.func 29) #[] #[] := hdep { on := 22, ground := .data } (by simp) rfl
          obtain ⟨sby25, cly25, y25, hSy25⟩ := hdep { on := 25, ground := .data } (by simp) rfl
          have y25 : ac.tmps[50]?.getD undef = _ := y25
          clear hdep hA
          go_simp
          refine (ORR.out wb (bstep HB6.out hB HB6.out.size) sby25 cly25 hSy25).mono ?_
          rintro e w5 ⟨ds, rfl, hL, hb5⟩
          exact hK _ w5 hb5 ⟨ds, rfl, hL.weaken fun _ _ => trivial⟩
        · simp at ho
          subst ho
          clear hdep hA
          go_simp
          exact hK _ wb (Below.refl _ _) rfl
        · simp at ho
          subst ho
          clear hdep hA
          go_simp
          exact hK _ wb (Below.refl _ _) rfl
        · simp at ho
          subst ho
          clear hdep hA
          go_simp
          exact hK _ wb (Below.refl _ _) rfl
        · simp at ho
          subst ho
          clear hdep hA
          go_simp
          exact hK _ wb (Below.refl _ _) rfl
        · simp at ho
          subst ho
          have y27 : ac.tmps[52]?.getD undef = .func (Fn.func 30) #[] #[] := hdep { on := 27, ground := .data } (by simp) rfl
          have y28 : ac.tmps[53]?.getD undef = .bool ta := hdep { on := 28, ground := .data } (by simp) rfl
          have y29 : ac.tmps[54]?.getD undef = .agg #[.int .i64 a0, .bool a1, .int .i64 a2, .string a3, .slice a4 a4l a4c, .slice a5 a5l a5c] := hdep { on := 29, ground := .data } (by simp) rfl
          have y30 : ac.tmps[55]?.getD undef = .agg #[.int .i64 b0, .bool b1, .int .i64 b2, .string b3, .slice b4 b4l b4c, .slice b5 b5l b5c] := hdep { on := 30, ground := .data } (by simp) rfl
          clear hdep hA
          go_simp
          refine (PKO.out wb (bstep HB6.out hB HB6.out.size) ).mono ?_
          rintro e w5 ⟨ds, rfl, hL, hb5⟩
          exact hK _ w5 hb5 ⟨ds, rfl, hL.weaken fun _ _ => trivial⟩
        · simp at ho
          subst ho
          obtain ⟨dsy26, y26, hLy26⟩ := hdep { on := 26, ground := .data } (by simp) rfl
          have y26 : ac.tmps[51]?.getD undef = _ := y26
          obtain ⟨dsy31, y31, hLy31⟩ := hdep { on := 31, ground := .data } (by simp) rfl
          have y31 : ac.tmps[56]?.getD undef = _ := y31
          clear hdep hA
          go_simp
          have hsm := rSame_any hLy26 hLy31 wb (Below.refl _ _)
          rw [T.same_self] at hsm
          refine hsm.mono ?_
          rintro e w5 ⟨rfl, hb5⟩
          exact hK _ w5 hb5 rfl
        · simp at ho
          subst ho
          have y32 : ac.tmps[57]?.getD undef = .bool true := hdep { on := 32, ground := .data } (by simp) rfl
          clear hdep hA
          go_simp
          exact hK _ wb (Below.refl _ _) rfl
        · simp at ho
          subst ho
          have y21 : ac.tmps[46]?.getD undef = .bool false := hdep { on := 21, ground := .data } (by simp) rfl
          have y33 : ac.tmps[58]?.getD undef = .bool false := hdep { on := 33, ground := .data } (by simp) rfl
          clear hdep hA
          go_simp
          exact hK _ wb (Below.refl _ _) rfl
      case s5 =>
        intro ac wn hA hB hU
        have hs : slots 35 (fun i => match i with | 0 => 25 | 1 => 26 | 2 => 27 | 3 => 28 | 4 => 29 | 5 => 30 | 6 => 31 | 7 => 32 | 8 => 33 | 9 => 34 | 10 => 35 | 11 => 36 | 12 => 37 | 13 => 38 | 14 => 39 | 15 => 40 | 16 => 41 | 17 => 42 | 18 => 43 | 19 => 44 | 20 => 45 | 21 => 46 | 22 => 47 | 23 => 48 | 24 => 49 | 25 => 50 | 26 => 51 | 27 => 52 | 28 => 53 | 29 => 54 | 30 => 55 | 31 => 56 | 32 => 57 | 33 => 58 | 34 => 59 | _ => 0) = [25, 26, 27, 28, 29, 30, 31, 32, 33, 34, 35, 36, 37, 38, 39, 40, 41, 42, 43, 44, 45, 46, 47, 48, 49, 50, 51, 52, 53, 54, 55, 56, 57, 58, 59] := by rfl
        rw [hs] at hA
        have hac := hA.act (fun t ht => by
          have h8 : t = 25 ∨ t = 26 ∨ t = 27 ∨ t = 28 ∨ t = 29 ∨ t = 30 ∨ t = 31 ∨ t = 32 ∨ t = 33 ∨ t = 34 ∨ t = 35 ∨ t = 36 ∨ t = 37 ∨ t = 38 ∨ t = 39 ∨ t = 40 ∨ t = 41 ∨ t = 42 ∨ t = 43 ∨ t = 44 ∨ t = 45 ∨ t = 46 ∨ t = 47 ∨ t = 48 ∨ t = 49 ∨ t = 50 ∨ t = 51 ∨ t = 52 ∨ t = 53 ∨ t = 54 ∨ t = 55 ∨ t = 56 ∨ t = 57 ∨ t = 58 ∨ t = 59 := by simpa using ht
          rcases h8 with rfl | rfl | rfl | rfl | rfl | rfl | rfl | rfl | rfl | rfl | rfl | rfl | rfl | rfl | rfl | rfl | rfl | rfl | rfl | rfl | rfl | rfl | rfl | rfl | rfl | rfl | rfl | rfl | rfl | rfl | rfl | rfl | rfl | rfl | rfl <;> exact Nat.lt_of_lt_of_le (by decide : _ < 120) (Nat.le_refl 120))
        rw [List.foldl_cons, List.foldl_cons, List.foldl_cons, List.foldl_cons, List.foldl_cons, List.foldl_cons, List.foldl_cons, List.foldl_cons, List.foldl_cons, List.foldl_cons, List.foldl_cons, List.foldl_cons, List.foldl_cons, List.foldl_cons, List.foldl_cons, List.foldl_cons, List.foldl_cons, List.foldl_cons, List.foldl_cons, List.foldl_cons, List.foldl_cons, List.foldl_cons, List.foldl_cons, List.foldl_cons, List.foldl_cons, List.foldl_cons, List.foldl_cons, List.foldl_cons, List.foldl_cons, List.foldl_cons, List.foldl_cons, List.foldl_cons, List.foldl_cons, List.foldl_cons, List.foldl_cons, List.foldl_nil] at hac
        have HB8 := Lib.hid (bstep HB6.out hB HB6.out.size)
        have z59 : sl ac 59 = .bool false := hU 34 (by omega)
        clear hU hB
        generalize sl ac 25 = x25 at hac z59
        generalize sl ac 26 = x26 at hac z59
        generalize sl ac 27 = x27 at hac z59
        generalize sl ac 28 = x28 at hac z59
        generalize sl ac 29 = x29 at hac z59
        generalize sl ac 30 = x30 at hac z59
        generalize sl ac 31 = x31 at hac z59
        generalize sl ac 32 = x32 at hac z59
        generalize sl ac 33 = x33 at hac z59
        generalize sl ac 34 = x34 at hac z59
        generalize sl ac 35 = x35 at hac z59
        generalize sl ac 36 = x36 at hac z59
        generalize sl ac 37 = x37 at hac z59
        generalize sl ac 38 = x38 at hac z59
        generalize sl ac 39 = x39 at hac z59
        generalize sl ac 40 = x40 at hac z59
        generalize sl ac 41 = x41 at hac z59
        generalize sl ac 42 = x42 at hac z59
        generalize sl ac 43 = x43 at hac z59
        generalize sl ac 44 = x44 at hac z59
        generalize sl ac 45 = x45 at hac z59
        generalize sl ac 46 = x46 at hac z59
        generalize sl ac 47 = x47 at hac z59
        generalize sl ac 48 = x48 at hac z59
        generalize sl ac 49 = x49 at hac z59
        generalize sl ac 50 = x50 at hac z59
        generalize sl ac 51 = x51 at hac z59
        generalize sl ac 52 = x52 at hac z59
        generalize sl ac 53 = x53 at hac z59
        generalize sl ac 54 = x54 at hac z59
        generalize sl ac 55 = x55 at hac z59
        generalize sl ac 56 = x56 at hac z59
        generalize sl ac 57 = x57 at hac z59
        generalize sl ac 58 = x58 at hac z59
        generalize sl ac 59 = x59 at hac z59
        subst z59
        subst hac
        simp only [Act.put, List.setIfInBounds_toArray, List.set_cons_succ, List.set_cons_zero]
        generalize hwn : wn = w8 at *
        clear hwn
        go_upto_region 8 with fail
        clear p0 p1 p2 p3 p4 p5 q0 q1 q2 q3 q4 q5 r0 r1 r2 r3 r4 r5
        obtain ⟨p0, p1, p2, p3, p4, p5⟩ := (B1.out.later HB8.out (by omega)).six
        obtain ⟨q0, q1, q2, q3, q4, q5⟩ := (B2.out.later HB8.out (by omega)).six
        obtain ⟨r0, r1, r2, r3, r4, r5⟩ := (B3.out.later HB8.out (by omega)).six
        refine wp_region_specs3 w8 61 (fun i => match i with | 0 => 60 | 1 => 61 | 2 => 62 | 3 => 63 | 4 => 64 | 5 => 65 | 6 => 66 | 7 => 67 | 8 => 68 | 9 => 69 | 10 => 70 | 11 => 71 | 12 => 72 | 13 => 73 | 14 => 74 | 15 => 75 | 16 => 76 | 17 => 77 | 18 => 78 | 19 => 79 | 20 => 80 | 21 => 81 | 22 => 82 | 23 => 83 | 24 => 84 | 25 => 85 | 26 => 86 | 27 => 87 | 28 => 88 | 29 => 89 | 30 => 90 | 31 => 91 | 32 => 92 | 33 => 93 | 34 => 94 | 35 => 95 | 36 => 96 | 37 => 97 | 38 => 98 | 39 => 99 | 40 => 100 | 41 => 101 | 42 => 102 | 43 => 103 | 44 => 104 | 45 => 105 | 46 => 106 | 47 => 107 | 48 => 108 | 49 => 109 | 50 => 110 | 51 => 111 | 52 => 112 | 53 => 113 | 54 => 114 | 55 => 115 | 56 => 116 | 57 => 117 | 58 => 118 | 59 => 119 | 60 => 6 | _ => 0) (fun i x wx => match i with | 0 => x = .bool true | 1 => x = .bool true | 2 => x = .func (Fn.func 29) #[] #[] | 3 => x = .agg #[.int .i64 a0, .bool a1, .int .i64 a2, .string a3, .slice a4 a4l a4c, .slice a5 a5l a5c] | 4 => x = .agg #[.int .i64 b0, .bool b1, .int .i64 b2, .string b3, .slice b4 b4l b4c, .slice b5 b5l b5c] | 5 => ∃ sb, x = .slice (some ⟨sb, 0, none⟩) 2 2 ∧ TwoV wx sb (.int .i64 a0) (.bool a1) (.int .i64 a2) (.string a3) (.slice a4 a4l a4c) (.slice a5 a5l a5c) (.int .i64 b0) (.bool b1) (.int .i64 b2) (.string b3) (.slice b4 b4l b4c) (.slice b5 b5l b5c) | 6 => ∃ ds : Array Value, x = .agg ds ∧ Lies wx (fun _ => True) rD ds | 7 => x = .func (Fn.func 30) #[] #[] | 8 => x = .bool tb | 9 => x = .agg #[.int .i64 b0, .bool b1, .int .i64 b2, .string b3, .slice b4 b4l b4c, .slice b5 b5l b5c] | 10 => x = .agg #[.int .i64 a0, .bool a1, .int .i64 a2, .string a3, .slice a4 a4l a4c, .slice a5 a5l a5c] | 11 => ∃ ds : Array Value, x = .agg ds ∧ Lies wx (fun _ => True) rD ds | 12 => x = .bool true | 13 => x = .bool true | 14 => x = .bool true | 15 => x = .func (Fn.func 29) #[] #[] | 16 => x = .agg #[.int .i64 a0, .bool a1, .int .i64 a2, .string a3, .slice a4 a4l a4c, .slice a5 a5l a5c] | 17 => x = .agg #[.int .i64 b0, .bool b1, .int .i64 b2, .string b3, .slice b4 b4l b4c, .slice b5 b5l b5c] | 18 => x = .agg #[.int .i64 c0, .bool c1, .int .i64 c2, .string c3, .slice c4 c4l c4c, .slice c5 c5l c5c] | 19 => ∃ sb, x = .slice (some ⟨sb, 0, none⟩) 3 3 ∧ ThreeV wx sb (.int .i64 a0) (.bool a1) (.int .i64 a2) (.string a3) (.slice a4 a4l a4c) (.slice a5 a5l a5c) (.int .i64 b0) (.bool b1) (.int .i64 b2) (.string b3) (.slice b4 b4l b4c) (.slice b5 b5l b5c) (.int .i64 c0) (.bool c1) (.int .i64 c2) (.string c3) (.slice c4 c4l c4c) (.slice c5 c5l c5c) | 20 => ∃ ds : Array Value, x = .agg ds ∧ Lies wx (fun _ => True) rT ds | 21 => x = .func (Fn.func 30) #[] #[] | 22 => x = .bool tc | 23 => x = .agg #[.int .i64 a0, .bool a1, .int .i64 a2, .string a3, .slice a4 a4l a4c, .slice a5 a5l a5c] | 24 => x = .agg #[.int .i64 b0, .bool b1, .int .i64 b2, .string b3, .slice b4 b4l b4c, .slice b5 b5l b5c] | 25 => ∃ ds : Array Value, x = .agg ds ∧ Lies wx (fun _ => True) rT ds | 26 => x = .bool true | 27 => x = .bool true | 28 => x = .bool true | 29 => x = .func (Fn.func 29) #[] #[] | 30 => x = .agg #[.int .i64 a0, .bool a1, .int .i64 a2, .string a3, .slice a4 a4l a4c, .slice a5 a5l a5c] | 31 => x = .agg #[.int .i64 b0, .bool b1, .int .i64 b2, .string b3, .slice b4 b4l b4c, .slice b5 b5l b5c] | 32 => ∃ sb, x = .slice (some ⟨sb, 0, none⟩) 2 2 ∧ TwoV wx sb (.int .i64 a0) (.bool a1) (.int .i64 a2) (.string a3) (.slice a4 a4l a4c) (.slice a5 a5l a5c) (.int .i64 b0) (.bool b1) (.int .i64 b2) (.string b3) (.slice b4 b4l b4c) (.slice b5 b5l b5c) | 33 => ∃ (la : Option Addr) (lc : Nat) (ma : Option Addr) (mc : Nat), x = .agg #[.int .i64 1, .bool e1, .int .i64 0, .string ⟨#[]⟩, .slice la 0 lc, .slice ma 0 mc] | 34 => x = .bool e1 | 35 => x = .func (Fn.func 29) #[] #[] | 36 => x = .agg #[.int .i64 a0, .bool a1, .int .i64 a2, .string a3, .slice a4 a4l a4c, .slice a5 a5l a5c] | 37 => x = .agg #[.int .i64 b0, .bool b1, .int .i64 b2, .string b3, .slice b4 b4l b4c, .slice b5 b5l b5c] | 38 => ∃ sb, x = .slice (some ⟨sb, 0, none⟩) 2 2 ∧ TwoV wx sb (.int .i64 a0) (.bool a1) (.int .i64 a2) (.string a3) (.slice a4 a4l a4c) (.slice a5 a5l a5c) (.int .i64 b0) (.bool b1) (.int .i64 b2) (.string b3) (.slice b4 b4l b4c) (.slice b5 b5l b5c) | 39 => ∃ (la : Option Addr) (lc : Nat) (ma : Option Addr) (mc : Nat), x = .agg #[.int .i64 1, .bool (!e1), .int .i64 0, .string ⟨#[]⟩, .slice la 0 lc, .slice ma 0 mc] | 40 => x = .bool (!e1) | 41 => x = .bool true | 42 => x = .bool true | 43 => x = .bool true | 44 => x = .func (Fn.func 29) #[] #[] | 45 => x = .agg #[.int .i64 a0, .bool a1, .int .i64 a2, .string a3, .slice a4 a4l a4c, .slice a5 a5l a5c] | 46 => x = .agg #[.int .i64 a0, .bool a1, .int .i64 a2, .string a3, .slice a4 a4l a4c, .slice a5 a5l a5c] | 47 => ∃ sb, x = .slice (some ⟨sb, 0, none⟩) 2 2 ∧ TwoV wx sb (.int .i64 a0) (.bool a1) (.int .i64 a2) (.string a3) (.slice a4 a4l a4c) (.slice a5 a5l a5c) (.int .i64 a0) (.bool a1) (.int .i64 a2) (.string a3) (.slice a4 a4l a4c) (.slice a5 a5l a5c) | 48 => ∃ (la : Option Addr) (lc : Nat) (ma : Option Addr) (mc : Nat), x = .agg #[.int .i64 1, .bool true, .int .i64 0, .string ⟨#[]⟩, .slice la 0 lc, .slice ma 0 mc] | 49 => x = .bool true | 50 => x = .bool true | 51 => x = .bool true | 52 => x = .func (Fn.func 29) #[] #[] | 53 => x = .agg #[.int .i64 a0, .bool a1, .int .i64 a2, .string a3, .slice a4 a4l a4c, .slice a5 a5l a5c] | 54 => x = .agg #[.int .i64 a0, .bool a1, .int .i64 a2, .string a3, .slice a4 a4l a4c, .slice a5 a5l a5c] | 55 => ∃ sb, x = .slice (some ⟨sb, 0, none⟩) 2 2 ∧ TwoV wx sb (.int .i64 a0) (.bool a1) (.int .i64 a2) (.string a3) (.slice a4 a4l a4c) (.slice a5 a5l a5c) (.int .i64 a0) (.bool a1) (.int .i64 a2) (.string a3) (.slice a4 a4l a4c) (.slice a5 a5l a5c) | 56 => ∃ (la : Option Addr) (lc : Nat) (ma : Option Addr) (mc : Nat), x = .agg #[.int .i64 1, .bool false, .int .i64 0, .string ⟨#[]⟩, .slice la 0 lc, .slice ma 0 mc] | 57 => x = .bool false | 58 => x = .bool true | 59 => x = .bool true | 60 => x = .bool true | _ => True) (by kernel_rfl) (by kernel_rfl) ?s1 (Below.refl _ _) ?s2 ?s3 ?s4 ?s5
        case s1 => intro i hi; rcases (by omega : i = 0 ∨ i = 1 ∨ i = 2 ∨ i = 3 ∨ i = 4 ∨ i = 5 ∨ i = 6 ∨ i = 7 ∨ i = 8 ∨ i = 9 ∨ i = 10 ∨ i = 11 ∨ i = 12 ∨ i = 13 ∨ i = 14 ∨ i = 15 ∨ i = 16 ∨ i = 17 ∨ i = 18 ∨ i = 19 ∨ i = 20 ∨ i = 21 ∨ i = 22 ∨ i = 23 ∨ i = 24 ∨ i = 25 ∨ i = 26 ∨ i = 27 ∨ i = 28 ∨ i = 29 ∨ i = 30 ∨ i = 31 ∨ i = 32 ∨ i = 33 ∨ i = 34 ∨ i = 35 ∨ i = 36 ∨ i = 37 ∨ i = 38 ∨ i = 39 ∨ i = 40 ∨ i = 41 ∨ i = 42 ∨ i = 43 ∨ i = 44 ∨ i = 45 ∨ i = 46 ∨ i = 47 ∨ i = 48 ∨ i = 49 ∨ i = 50 ∨ i = 51 ∨ i = 52 ∨ i = 53 ∨ i = 54 ∨ i = 55 ∨ i = 56 ∨ i = 57 ∨ i = 58 ∨ i = 59 ∨ i = 60) with rfl | rfl | rfl | rfl | rfl | rfl | rfl | rfl | rfl | rfl | rfl | rfl | rfl | rfl | rfl | rfl | rfl | rfl | rfl | rfl | rfl | rfl | rfl | rfl | rfl | rfl | rfl | rfl | rfl | rfl | rfl | rfl | rfl | rfl | rfl | rfl | rfl | rfl | rfl | rfl | rfl | rfl | rfl | rfl | rfl | rfl | rfl | rfl | rfl | rfl | rfl | rfl | rfl | rfl | rfl | rfl | rfl | rfl | rfl | rfl | rfl <;> exact Nat.lt_of_lt_of_le (by decide : _ < 120) (Nat.le_refl 120)
        case s2 =>
          intro i x w1 w2 hb hU
          match i, hU with
          | 0, h => exact h
          | 5, ⟨sb, e, hS⟩ => exact ⟨sb, e, hS.later hb⟩
          | 6, ⟨ds, e, hL⟩ => exact ⟨ds, e, hL.later hb⟩
          | 11, ⟨ds, e, hL⟩ => exact ⟨ds, e, hL.later hb⟩
          | 12, h => exact h
          | 19, ⟨sb, e, hS⟩ => exact ⟨sb, e, hS.later hb⟩
          | 20, ⟨ds, e, hL⟩ => exact ⟨ds, e, hL.later hb⟩
          | 25, ⟨ds, e, hL⟩ => exact ⟨ds, e, hL.later hb⟩
          | 26, h => exact h
          | 32, ⟨sb, e, hS⟩ => exact ⟨sb, e, hS.later hb⟩
          | 33, h => exact h
          | 38, ⟨sb, e, hS⟩ => exact ⟨sb, e, hS.later hb⟩
          | 39, h => exact h
          | 47, ⟨sb, e, hS⟩ => exact ⟨sb, e, hS.later hb⟩
          | 48, h => exact h
          | 55, ⟨sb, e, hS⟩ => exact ⟨sb, e, hS.later hb⟩
          | 56, h => exact h
          | 1, h | 2, h | 3, h | 4, h | 7, h | 8, h | 9, h | 10, h | 13, h | 14, h | 15, h | 16, h | 17, h | 18, h | 21, h | 22, h | 23, h | 24, h | 27, h | 28, h | 29, h | 30, h | 31, h | 34, h | 35, h | 36, h | 37, h | 40, h | 41, h | 42, h | 43, h | 44, h | 45, h | 46, h | 49, h | 50, h | 51, h | 52, h | 53, h | 54, h | 57, h | 58, h | 59, h | 60, h => exact h
          | (n + 61), _ => trivial
        case s3 =>
          intro i o g b ho hg x w hu
          have hi : i < 61 := (Array.getElem?_eq_some_iff.1 ho).1
          rcases (by omega : i = 0 ∨ i = 1 ∨ i = 2 ∨ i = 3 ∨ i = 4 ∨ i = 5 ∨ i = 6 ∨ i = 7 ∨ i = 8 ∨ i = 9 ∨ i = 10 ∨ i = 11 ∨ i = 12 ∨ i = 13 ∨ i = 14 ∨ i = 15 ∨ i = 16 ∨ i = 17 ∨ i = 18 ∨ i = 19 ∨ i = 20 ∨ i = 21 ∨ i = 22 ∨ i = 23 ∨ i = 24 ∨ i = 25 ∨ i = 26 ∨ i = 27 ∨ i = 28 ∨ i = 29 ∨ i = 30 ∨ i = 31 ∨ i = 32 ∨ i = 33 ∨ i = 34 ∨ i = 35 ∨ i = 36 ∨ i = 37 ∨ i = 38 ∨ i = 39 ∨ i = 40 ∨ i = 41 ∨ i = 42 ∨ i = 43 ∨ i = 44 ∨ i = 45 ∨ i = 46 ∨ i = 47 ∨ i = 48 ∨ i = 49 ∨ i = 50 ∨ i = 51 ∨ i = 52 ∨ i = 53 ∨ i = 54 ∨ i = 55 ∨ i = 56 ∨ i = 57 ∨ i = 58 ∨ i = 59 ∨ i = 60) with rfl | rfl | rfl | rfl | rfl | rfl | rfl | rfl | rfl | rfl | rfl | rfl | rfl | rfl | rfl | rfl | rfl | rfl | rfl | rfl | rfl | rfl | rfl | rfl | rfl | rfl | rfl | rfl | rfl | rfl | rfl | rfl | rfl | rfl | rfl | rfl | rfl | rfl | rfl | rfl | rfl | rfl | rfl | rfl | rfl | rfl | rfl | rfl | rfl | rfl | rfl | rfl | rfl | rfl | rfl | rfl | rfl | rfl | rfl | rfl | rfl
          · simp at ho; subst ho; cases hg
          · simp at ho; subst ho; cases hg
          · simp at ho; subst ho; cases hg; exact hu
          · simp at ho; subst ho; cases hg; exact hu
          · simp at ho; subst ho; cases hg; exact hu
          · simp at ho; subst ho; cases hg; exact hu
          · simp at ho; subst ho; cases hg; exact hu
          · simp at ho; subst ho; cases hg; exact hu
          · simp at ho; subst ho; cases hg; exact hu
          · simp at ho; subst ho; cases hg; exact hu
          · simp at ho; subst ho; cases hg; exact hu
          · simp at ho; subst ho; cases hg; exact hu
          · simp at ho; subst ho; cases hg; exact hu
          · simp at ho; subst ho; cases hg
          · simp at ho; subst ho; cases hg
          · simp at ho; subst ho; cases hg; exact hu
          · simp at ho; subst ho; cases hg; exact hu
          · simp at ho; subst ho; cases hg; exact hu
          · simp at ho; subst ho; cases hg; exact hu
          · simp at ho; subst ho; cases hg; exact hu
          · simp at ho; subst ho; cases hg; exact hu
          · simp at ho; subst ho; cases hg; exact hu
          · simp at ho; subst ho; cases hg; exact hu
          · simp at ho; subst ho; cases hg; exact hu
          · simp at ho; subst ho; cases hg; exact hu
          · simp at ho; subst ho; cases hg; exact hu
          · simp at ho; subst ho; cases hg; exact hu
          · simp at ho; subst ho; cases hg
          · simp at ho; subst ho; cases hg
          · simp at ho; subst ho; cases hg; exact hu
          · simp at ho; subst ho; cases hg; exact hu
          · simp at ho; subst ho; cases hg; exact hu
          · simp at ho; subst ho; cases hg; exact hu
          · simp at ho; subst ho; cases hg; exact hu
          · simp at ho; subst ho; cases hg; exact hu
          · simp at ho; subst ho; cases hg; exact hu
          · simp at ho; subst ho; cases hg; exact hu
          · simp at ho; subst ho; cases hg; exact hu
          · simp at ho; subst ho; cases hg; exact hu
          · simp at ho; subst ho; cases hg; exact hu
          · simp at ho; subst ho; cases hg; exact hu
          · simp at ho; subst ho; cases hg; exact hu
          · simp at ho; subst ho; cases hg
          · simp at ho; subst ho; cases hg
          · simp at ho; subst ho; cases hg; exact hu
          · simp at ho; subst ho; cases hg; exact hu
          · simp at ho; subst ho; cases hg; exact hu
          · simp at ho; subst ho; cases hg; exact hu
          · simp at ho; subst ho; cases hg; exact hu
          · simp at ho; subst ho; cases hg; exact hu
          · simp at ho; subst ho; cases hg
          · simp at ho; subst ho; cases hg
          · simp at ho; subst ho; cases hg; exact hu
          · simp at ho; subst ho; cases hg; exact hu
          · simp at ho; subst ho; cases hg; exact hu
          · simp at ho; subst ho; cases hg; exact hu
          · simp at ho; subst ho; cases hg; exact hu
          · simp at ho; subst ho; cases hg; exact hu
          · simp at ho; subst ho; cases hg; exact hu
          · simp at ho; subst ho; cases hg
          · simp at ho; subst ho; cases hg
        case s4 =>
          intro i o ac wb K' ho hi hA hB hdep hK
          have sv3 : ac.tmps[3]?.getD undef = .pointer (some ⟨w.heap.size, 0, none⟩) := hA.sl (t := 3) (by decide)
          have sv4 : ac.tmps[4]?.getD undef = .pointer (some ⟨w.heap.size + 1, 0, none⟩) := hA.sl (t := 4) (by decide)
          have sv5 : ac.tmps[5]?.getD undef = .pointer (some ⟨w.heap.size + 1 + 1, 0, none⟩) := hA.sl (t := 5) (by decide)
          have sv7 : ac.tmps[7]?.getD undef = .func (Fn.func 29) #[] #[] := hA.sl (t := 7) (by decide)
          have sv8 : ac.tmps[8]?.getD undef = .func (Fn.func 30) #[] #[] := hA.sl (t := 8) (by decide)
          have sv9 : ac.tmps[9]?.getD undef = .bool ta := hA.sl (t := 9) (by decide)
          have sv10 : ac.tmps[10]?.getD undef = .bool tb := hA.sl (t := 10) (by decide)
          have sv11 : ac.tmps[11]?.getD undef = .bool tc := hA.sl (t := 11) (by decide)
          have p0 := cells_frame hB p0
          have p1 := cells_frame hB p1
          have p2 := cells_frame hB p2
          have p3 := cells_frame hB p3
          have p4 := cells_frame hB p4
          have p5 := cells_frame hB p5
          have q0 := cells_frame hB q0
          have q1 := cells_frame hB q1
          have q2 := cells_frame hB q2
          have q3 := cells_frame hB q3
          have q4 := cells_frame hB q4
          have q5 := cells_frame hB q5
          have r0 := cells_frame hB r0
          have r1 := cells_frame hB r1
          have r2 := cells_frame hB r2
          have r3 := cells_frame hB r3
          have r4 := cells_frame hB r4
          have r5 := cells_frame hB r5
          rcases (by omega : i = 0 ∨ i = 1 ∨ i = 2 ∨ i = 3 ∨ i = 4 ∨ i = 5 ∨ i = 6 ∨ i = 7 ∨ i = 8 ∨ i = 9 ∨ i = 10 ∨ i = 11 ∨ i = 12 ∨ i = 13 ∨ i = 14 ∨ i = 15 ∨ i = 16 ∨ i = 17 ∨ i = 18 ∨ i = 19 ∨ i = 20 ∨ i = 21 ∨ i = 22 ∨ i = 23 ∨ i = 24 ∨ i = 25 ∨ i = 26 ∨ i = 27 ∨ i = 28 ∨ i = 29 ∨ i = 30 ∨ i = 31 ∨ i = 32 ∨ i = 33 ∨ i = 34 ∨ i = 35 ∨ i = 36 ∨ i = 37 ∨ i = 38 ∨ i = 39 ∨ i = 40 ∨ i = 41 ∨ i = 42 ∨ i = 43 ∨ i = 44 ∨ i = 45 ∨ i = 46 ∨ i = 47 ∨ i = 48 ∨ i = 49 ∨ i = 50 ∨ i = 51 ∨ i = 52 ∨ i = 53 ∨ i = 54 ∨ i = 55 ∨ i = 56 ∨ i = 57 ∨ i = 58 ∨ i = 59 ∨ i = 60) with rfl | rfl | rfl | rfl | rfl | rfl | rfl | rfl | rfl | rfl | rfl | rfl | rfl | rfl | rfl | rfl | rfl | rfl | rfl | rfl | rfl | rfl | rfl | rfl | rfl | rfl | rfl | rfl | rfl | rfl | rfl | rfl | rfl | rfl | rfl | rfl | rfl | rfl | rfl | rfl | rfl | rfl | rfl | rfl | rfl | rfl | rfl | rfl | rfl | rfl | rfl | rfl | rfl | rfl | rfl | rfl | rfl | rfl | rfl | rfl | rfl
          · simp at ho
            subst ho
            clear hdep hA
            go_simp
            refine (AW.out wb (bstep HB8.out hB HB8.out.size)).mono ?_
            rintro e w5 ⟨rfl, hb5⟩
            exact hK _ w5 hb5 rfl
          · simp at ho
            subst ho
            have y0 : ac.tmps[60]?.getD undef = .bool true := hdep { on := 0, ground := .data } (by simp) rfl
            clear hdep hA
            go_simp
            exact hK _ wb (Below.refl _ _) rfl
          · simp at ho
            subst ho
            clear hdep hA
            go_simp
            exact hK _ wb (Below.refl _ _) rfl
          · simp at ho
            subst ho
            clear hdep hA
            go_simp
            exact hK _ wb (Below.refl _ _) rfl
          · simp at ho
            subst ho
            clear hdep hA
            go_simp
            exact hK _ wb (Below.refl _ _) rfl
          · simp at ho
            subst ho
            have y3 : ac.tmps[63]?.getD undef = .agg #[.int .i64 a0, .bool a1, .int .i64 a2, .string a3, .slice a4 a4l a4c, .slice a5 a5l a5c] := hdep { on := 3, ground := .data } (by simp) rfl
            have y4 : ac.tmps[64]?.getD undef = .agg #[.int .i64 b0, .bool b1, .int .i64 b2, .string b3, .slice b4 b4l b4c, .slice b5 b5l b5c] := hdep { on := 4, ground := .data } (by simp) rfl
            clear hdep hA
            go_simp
            exact hK _ _ ((Below.refl _ _).alloc (Nat.le_refl _) _) ⟨wb.heap.size, rfl, TwoV.new wb _ _ _ _ _ _ _ _ _ _ _ _ 27⟩
          · simp at ho
            subst ho
            have y2 : ac.tmps[62]?.getD undef = .func (Fn.func 29) #[] #[] := hdep { on := 2, ground := .data } (by simp) rfl
            obtain ⟨sby5, y5, hSy5⟩ := hdep { on := 5, ground := .data } (by simp) rfl
            have y5 : ac.tmps[65]?.getD undef = _ := y5
            clear hdep hA
            go_simp
            refine (DEF.out wb (bstep HB8.out hB HB8.out.size) sby5 hSy5).mono ?_
            rintro e w5 ⟨ds, rfl, hL, hb5⟩
            exact hK _ w5 hb5 ⟨ds, rfl, hL.weaken fun _ _ => trivial⟩
          · simp at ho
            subst ho
            clear hdep hA
            go_simp
            exact hK _ wb (Below.refl _ _) rfl
          · simp at ho
            subst ho
            clear hdep hA
            go_simp
            exact hK _ wb (Below.refl _ _) rfl
          · simp at ho
            subst ho
            clear hdep hA
            go_simp
            exact hK _ wb (Below.refl _ _) rfl
          · simp at ho
            subst ho
            clear hdep hA
            go_simp
            exact hK _ wb (Below.refl _ _) rfl
          · simp at ho
            subst ho
            have y7 : ac.tmps[67]?.getD undef = .func (Fn.func 30) #[] #[] := hdep { on := 7, ground := .data } (by simp) rfl
            have y8 : ac.tmps[68]?.getD undef = .bool tb := hdep { on := 8, ground := .data } (by simp) rfl
            have y9 : ac.tmps[69]?.getD undef = .agg #[.int .i64 b0, .bool b1, .int .i64 b2, .string b3, .slice b4 b4l b4c, .slice b5 b5l b5c] := hdep { on := 9, ground := .data } (by simp) rfl
            have y10 : ac.tmps[70]?.getD undef = .agg #[.int .i64 a0, .bool a1, .int .i64 a2, .string a3, .slice a4 a4l a4c, .slice a5 a5l a5c] := hdep { on := 10, ground := .data } (by simp) rfl
            clear hdep hA
            go_simp
            refine (PKD.out wb (bstep HB8.out hB HB8.out.size) ).mono ?_
            rintro e w5 ⟨ds, rfl, hL, hb5⟩
            exact hK _ w5 hb5 ⟨ds, rfl, hL.weaken fun _ _ => trivial⟩
          · simp at ho
            subst ho
            obtain ⟨dsy6, y6, hLy6⟩ := hdep { on := 6, ground := .data } (by simp) rfl
            have y6 : ac.tmps[66]?.getD undef = _ := y6
            obtain ⟨dsy11, y11, hLy11⟩ := hdep { on := 11, ground := .data } (by simp) rfl
            have y11 : ac.tmps[71]?.getD undef = _ := y11
            clear hdep hA
            go_simp
            have hsm := rSame_any hLy6 hLy11 wb (Below.refl _ _)
            rw [T.same_self] at hsm
            refine hsm.mono ?_
            rintro e w5 ⟨rfl, hb5⟩
            exact hK _ w5 hb5 rfl
          · simp at ho
            subst ho
            have y1 : ac.tmps[61]?.getD undef = .bool true := hdep { on := 1, ground := .data } (by simp) rfl
            have y12 : ac.tmps[72]?.getD undef = .bool true := hdep { on := 12, ground := .data } (by simp) rfl
            clear hdep hA
            go_simp
            exact hK _ wb (Below.refl _ _) rfl
          · simp at ho
            subst ho
            have y13 : ac.tmps[73]?.getD undef = .bool true := hdep { on := 13, ground := .data } (by simp) rfl
            clear hdep hA
            go_simp
            exact hK _ wb (Below.refl _ _) rfl
          · simp at ho
            subst ho
            clear hdep hA
            go_simp
            exact hK _ wb (Below.refl _ _) rfl
          · simp at ho
            subst ho
            clear hdep hA
            go_simp
            exact hK _ wb (Below.refl _ _) rfl
          · simp at ho
            subst ho
            clear hdep hA
            go_simp
            exact hK _ wb (Below.refl _ _) rfl
          · simp at ho
            subst ho
            clear hdep hA
            go_simp
            exact hK _ wb (Below.refl _ _) rfl
          · simp at ho
            subst ho
            have y16 : ac.tmps[76]?.getD undef = .agg #[.int .i64 a0, .bool a1, .int .i64 a2, .string a3, .slice a4 a4l a4c, .slice a5 a5l a5c] := hdep { on := 16, ground := .data } (by simp) rfl
            have y17 : ac.tmps[77]?.getD undef = .agg #[.int .i64 b0, .bool b1, .int .i64 b2, .string b3, .slice b4 b4l b4c, .slice b5 b5l b5c] := hdep { on := 17, ground := .data } (by simp) rfl
            have y18 : ac.tmps[78]?.getD undef = .agg #[.int .i64 c0, .bool c1, .int .i64 c2, .string c3, .slice c4 c4l c4c, .slice c5 c5l c5c] := hdep { on := 18, ground := .data } (by simp) rfl
            clear hdep hA
            go_simp
            exact hK _ _ ((Below.refl _ _).alloc (Nat.le_refl _) _) ⟨wb.heap.size, rfl, ThreeV.new wb _ _ _ _ _ _ _ _ _ _ _ _ _ _ _ _ _ _ 27⟩
          · simp at ho
            subst ho
            have y15 : ac.tmps[75]?.getD undef = .func (Fn.func 29) #[] #[] := hdep { on := 15, ground := .data } (by simp) rfl
            obtain ⟨sby19, y19, hSy19⟩ := hdep { on := 19, ground := .data } (by simp) rfl
            have y19 : ac.tmps[79]?.getD undef = _ := y19
            clear hdep hA
            go_simp
            refine (TER.out wb (bstep HB8.out hB HB8.out.size) sby19 hSy19).mono ?_
            rintro e w5 ⟨ds, rfl, hL, hb5⟩
            exact hK _ w5 hb5 ⟨ds, rfl, hL.weaken fun _ _ => trivial⟩
          · simp at ho
            subst ho
            clear hdep hA
            go_simp
            exact hK _ wb (Below.refl _ _) rfl
          · simp at ho
            subst ho
            clear hdep hA
            go_simp
            exact hK _ wb (Below.refl _ _) rfl
          · simp at ho
            subst ho
            clear hdep hA
            go_simp
            exact hK _ wb (Below.refl _ _) rfl
          · simp at ho
            subst ho
            clear hdep hA
            go_simp
            exact hK _ wb (Below.refl _ _) rfl
          · simp at ho
            subst ho
            have y21 : ac.tmps[81]?.getD undef = .func (Fn.func 30) #[] #[] := hdep { on := 21, ground := .data } (by simp) rfl
            have y22 : ac.tmps[82]?.getD undef = .bool tc := hdep { on := 22, ground := .data } (by simp) rfl
            have y23 : ac.tmps[83]?.getD undef = .agg #[.int .i64 a0, .bool a1, .int .i64 a2, .string a3, .slice a4 a4l a4c, .slice a5 a5l a5c] := hdep { on := 23, ground := .data } (by simp) rfl
            have y24 : ac.tmps[84]?.getD undef = .agg #[.int .i64 b0, .bool b1, .int .i64 b2, .string b3, .slice b4 b4l b4c, .slice b5 b5l b5c] := hdep { on := 24, ground := .data } (by simp) rfl
            clear hdep hA
            go_simp
            refine (PKT.out wb (bstep HB8.out hB HB8.out.size) ).mono ?_
            rintro e w5 ⟨ds, rfl, hL, hb5⟩
            exact hK _ w5 hb5 ⟨ds, rfl, hL.weaken fun _ _ => trivial⟩
          · simp at ho
            subst ho
            obtain ⟨dsy20, y20, hLy20⟩ := hdep { on := 20, ground := .data } (by simp) rfl
            have y20 : ac.tmps[80]?.getD undef = _ := y20
            obtain ⟨dsy25, y25, hLy25⟩ := hdep { on := 25, ground := .data } (by simp) rfl
            have y25 : ac.tmps[85]?.getD undef = _ := y25
            clear hdep hA
            go_simp
            have hsm := rSame_any hLy20 hLy25 wb (Below.refl _ _)
            rw [T.same_self] at hsm
            refine hsm.mono ?_
            rintro e w5 ⟨rfl, hb5⟩
            exact hK _ w5 hb5 rfl
          · simp at ho
            subst ho
            have y14 : ac.tmps[74]?.getD undef = .bool true := hdep { on := 14, ground := .data } (by simp) rfl
            have y26 : ac.tmps[86]?.getD undef = .bool true := hdep { on := 26, ground := .data } (by simp) rfl
            clear hdep hA
            go_simp
            exact hK _ wb (Below.refl _ _) rfl
          · simp at ho
            subst ho
            have y27 : ac.tmps[87]?.getD undef = .bool true := hdep { on := 27, ground := .data } (by simp) rfl
            clear hdep hA
            go_simp
            exact hK _ wb (Below.refl _ _) rfl
          · simp at ho
            subst ho
            clear hdep hA
            go_simp
            exact hK _ wb (Below.refl _ _) rfl
          · simp at ho
            subst ho
            clear hdep hA
            go_simp
            exact hK _ wb (Below.refl _ _) rfl
          · simp at ho
            subst ho
            clear hdep hA
            go_simp
            exact hK _ wb (Below.refl _ _) rfl
          · simp at ho
            subst ho
            have y30 : ac.tmps[90]?.getD undef = .agg #[.int .i64 a0, .bool a1, .int .i64 a2, .string a3, .slice a4 a4l a4c, .slice a5 a5l a5c] := hdep { on := 30, ground := .data } (by simp) rfl
            have y31 : ac.tmps[91]?.getD undef = .agg #[.int .i64 b0, .bool b1, .int .i64 b2, .string b3, .slice b4 b4l b4c, .slice b5 b5l b5c] := hdep { on := 31, ground := .data } (by simp) rfl
            clear hdep hA
            go_simp
            exact hK _ _ ((Below.refl _ _).alloc (Nat.le_refl _) _) ⟨wb.heap.size, rfl, TwoV.new wb _ _ _ _ _ _ _ _ _ _ _ _ 27⟩
          · simp at ho
            subst ho
            have y29 : ac.tmps[89]?.getD undef = .func (Fn.func 29) #[] #[] := hdep { on := 29, ground := .data } (by simp) rfl
            obtain ⟨sby32, y32, hSy32⟩ := hdep { on := 32, ground := .data } (by simp) rfl
            have y32 : ac.tmps[92]?.getD undef = _ := y32
            clear hdep hA
            go_simp
            refine (EQQ.out wb (bstep HB8.out hB HB8.out.size) sby32 hSy32).mono ?_
            rintro e w5 ⟨la, lc, ma, mc, rfl, hb5⟩
            exact hK _ w5 hb5 ⟨la, lc, ma, mc, rfl⟩
          · simp at ho
            subst ho
            obtain ⟨lay33, lcy33, may33, mcy33, y33⟩ := hdep { on := 33, ground := .data } (by simp) rfl
            have y33 : ac.tmps[93]?.getD undef = _ := y33
            clear hdep hA
            go_simp
            exact hK _ wb (Below.refl _ _) rfl
          · simp at ho
            subst ho
            clear hdep hA
            go_simp
            exact hK _ wb (Below.refl _ _) rfl
          · simp at ho
            subst ho
            clear hdep hA
            go_simp
            exact hK _ wb (Below.refl _ _) rfl
          · simp at ho
            subst ho
            clear hdep hA
            go_simp
            exact hK _ wb (Below.refl _ _) rfl
          · simp at ho
            subst ho
            have y36 : ac.tmps[96]?.getD undef = .agg #[.int .i64 a0, .bool a1, .int .i64 a2, .string a3, .slice a4 a4l a4c, .slice a5 a5l a5c] := hdep { on := 36, ground := .data } (by simp) rfl
            have y37 : ac.tmps[97]?.getD undef = .agg #[.int .i64 b0, .bool b1, .int .i64 b2, .string b3, .slice b4 b4l b4c, .slice b5 b5l b5c] := hdep { on := 37, ground := .data } (by simp) rfl
            clear hdep hA
            go_simp
            exact hK _ _ ((Below.refl _ _).alloc (Nat.le_refl _) _) ⟨wb.heap.size, rfl, TwoV.new wb _ _ _ _ _ _ _ _ _ _ _ _ 27⟩
          · simp at ho
            subst ho
            have y35 : ac.tmps[95]?.getD undef = .func (Fn.func 29) #[] #[] := hdep { on := 35, ground := .data } (by simp) rfl
            obtain ⟨sby38, y38, hSy38⟩ := hdep { on := 38, ground := .data } (by simp) rfl
            have y38 : ac.tmps[98]?.getD undef = _ := y38
            clear hdep hA
            go_simp
            refine (NEE.out wb (bstep HB8.out hB HB8.out.size) sby38 hSy38).mono ?_
            rintro e w5 ⟨la, lc, ma, mc, rfl, hb5⟩
            exact hK _ w5 hb5 ⟨la, lc, ma, mc, rfl⟩
          · simp at ho
            subst ho
            obtain ⟨lay39, lcy39, may39, mcy39, y39⟩ := hdep { on := 39, ground := .data } (by simp) rfl
            have y39 : ac.tmps[99]?.getD undef = _ := y39
            clear hdep hA
            go_simp
            exact hK _ wb (Below.refl _ _) rfl
          · simp at ho
            subst ho
            have y34 : ac.tmps[94]?.getD undef = .bool e1 := hdep { on := 34, ground := .data } (by simp) rfl
            have y40 : ac.tmps[100]?.getD undef = .bool (!e1) := hdep { on := 40, ground := .data } (by simp) rfl
            clear hdep hA
            go_simp
            exact hK _ wb (Below.refl _ _) (by cases e1 <;> rfl)
          · simp at ho
            subst ho
            have y28 : ac.tmps[88]?.getD undef = .bool true := hdep { on := 28, ground := .data } (by simp) rfl
            have y41 : ac.tmps[101]?.getD undef = .bool true := hdep { on := 41, ground := .data } (by simp) rfl
            clear hdep hA
            go_simp
            exact hK _ wb (Below.refl _ _) rfl
          · simp at ho
            subst ho
            have y42 : ac.tmps[102]?.getD undef = .bool true := hdep { on := 42, ground := .data } (by simp) rfl
            clear hdep hA
            go_simp
            exact hK _ wb (Below.refl _ _) rfl
          · simp at ho
            subst ho
            clear hdep hA
            go_simp
            exact hK _ wb (Below.refl _ _) rfl
          · simp at ho
            subst ho
            clear hdep hA
            go_simp
            exact hK _ wb (Below.refl _ _) rfl
          · simp at ho
            subst ho
            clear hdep hA
            go_simp
            exact hK _ wb (Below.refl _ _) rfl
          · simp at ho
            subst ho
            have y45 : ac.tmps[105]?.getD undef = .agg #[.int .i64 a0, .bool a1, .int .i64 a2, .string a3, .slice a4 a4l a4c, .slice a5 a5l a5c] := hdep { on := 45, ground := .data } (by simp) rfl
            have y46 : ac.tmps[106]?.getD undef = .agg #[.int .i64 a0, .bool a1, .int .i64 a2, .string a3, .slice a4 a4l a4c, .slice a5 a5l a5c] := hdep { on := 46, ground := .data } (by simp) rfl
            clear hdep hA
            go_simp
            exact hK _ _ ((Below.refl _ _).alloc (Nat.le_refl _) _) ⟨wb.heap.size, rfl, TwoV.new wb _ _ _ _ _ _ _ _ _ _ _ _ 27⟩
          · simp at ho
            subst ho
            have y44 : ac.tmps[104]?.getD undef = .func (Fn.func 29) #[] #[] := hdep { on := 44, ground := .data } (by simp) rfl
            obtain ⟨sby47, y47, hSy47⟩ := hdep { on := 47, ground := .data } (by simp) rfl
            have y47 : ac.tmps[107]?.getD undef = _ := y47
            clear hdep hA
            go_simp
            refine (EQS.out wb (bstep HB8.out hB HB8.out.size) sby47 hSy47).mono ?_
            rintro e w5 ⟨la, lc, ma, mc, rfl, hb5⟩
            exact hK _ w5 hb5 ⟨la, lc, ma, mc, rfl⟩
          · simp at ho
            subst ho
            obtain ⟨lay48, lcy48, may48, mcy48, y48⟩ := hdep { on := 48, ground := .data } (by simp) rfl
            have y48 : ac.tmps[108]?.getD undef = _ := y48
            clear hdep hA
            go_simp
            exact hK _ wb (Below.refl _ _) rfl
          · simp at ho
            subst ho
            have y43 : ac.tmps[103]?.getD undef = .bool true := hdep { on := 43, ground := .data } (by simp) rfl
            have y49 : ac.tmps[109]?.getD undef = .bool true := hdep { on := 49, ground := .data } (by simp) rfl
            clear hdep hA
            go_simp
            exact hK _ wb (Below.refl _ _) rfl
          · simp at ho
            subst ho
            have y50 : ac.tmps[110]?.getD undef = .bool true := hdep { on := 50, ground := .data } (by simp) rfl
            clear hdep hA
            go_simp
            exact hK _ wb (Below.refl _ _) rfl
          · simp at ho
            subst ho
            clear hdep hA
            go_simp
            exact hK _ wb (Below.refl _ _) rfl
          · simp at ho
            subst ho
            clear hdep hA
            go_simp
            exact hK _ wb (Below.refl _ _) rfl
          · simp at ho
            subst ho
            clear hdep hA
            go_simp
            exact hK _ wb (Below.refl _ _) rfl
          · simp at ho
            subst ho
            have y53 : ac.tmps[113]?.getD undef = .agg #[.int .i64 a0, .bool a1, .int .i64 a2, .string a3, .slice a4 a4l a4c, .slice a5 a5l a5c] := hdep { on := 53, ground := .data } (by simp) rfl
            have y54 : ac.tmps[114]?.getD undef = .agg #[.int .i64 a0, .bool a1, .int .i64 a2, .string a3, .slice a4 a4l a4c, .slice a5 a5l a5c] := hdep { on := 54, ground := .data } (by simp) rfl
            clear hdep hA
            go_simp
            exact hK _ _ ((Below.refl _ _).alloc (Nat.le_refl _) _) ⟨wb.heap.size, rfl, TwoV.new wb _ _ _ _ _ _ _ _ _ _ _ _ 27⟩
          · simp at ho
            subst ho
            have y52 : ac.tmps[112]?.getD undef = .func (Fn.func 29) #[] #[] := hdep { on := 52, ground := .data } (by simp) rfl
            obtain ⟨sby55, y55, hSy55⟩ := hdep { on := 55, ground := .data } (by simp) rfl
            have y55 : ac.tmps[115]?.getD undef = _ := y55
            clear hdep hA
            go_simp
            refine (LTS.out wb (bstep HB8.out hB HB8.out.size) sby55 hSy55).mono ?_
            rintro e w5 ⟨la, lc, ma, mc, rfl, hb5⟩
            exact hK _ w5 hb5 ⟨la, lc, ma, mc, rfl⟩
          · simp at ho
            subst ho
            obtain ⟨lay56, lcy56, may56, mcy56, y56⟩ := hdep { on := 56, ground := .data } (by simp) rfl
            have y56 : ac.tmps[116]?.getD undef = _ := y56
            clear hdep hA
            go_simp
            exact hK _ wb (Below.refl _ _) rfl
          · simp at ho
            subst ho
            have y57 : ac.tmps[117]?.getD undef = .bool false := hdep { on := 57, ground := .data } (by simp) rfl
            clear hdep hA
            go_simp
            exact hK _ wb (Below.refl _ _) rfl
          · simp at ho
            subst ho
            have y51 : ac.tmps[111]?.getD undef = .bool true := hdep { on := 51, ground := .data } (by simp) rfl
            have y58 : ac.tmps[118]?.getD undef = .bool true := hdep { on := 58, ground := .data } (by simp) rfl
            clear hdep hA
            go_simp
            exact hK _ wb (Below.refl _ _) rfl
          · simp at ho
            subst ho
            have y59 : ac.tmps[119]?.getD undef = .bool true := hdep { on := 59, ground := .data } (by simp) rfl
            clear hdep hA
            go_simp
            exact hK _ wb (Below.refl _ _) rfl
        case s5 =>
          intro ac wn hA hB hU
          have hs : slots 61 (fun i => match i with | 0 => 60 | 1 => 61 | 2 => 62 | 3 => 63 | 4 => 64 | 5 => 65 | 6 => 66 | 7 => 67 | 8 => 68 | 9 => 69 | 10 => 70 | 11 => 71 | 12 => 72 | 13 => 73 | 14 => 74 | 15 => 75 | 16 => 76 | 17 => 77 | 18 => 78 | 19 => 79 | 20 => 80 | 21 => 81 | 22 => 82 | 23 => 83 | 24 => 84 | 25 => 85 | 26 => 86 | 27 => 87 | 28 => 88 | 29 => 89 | 30 => 90 | 31 => 91 | 32 => 92 | 33 => 93 | 34 => 94 | 35 => 95 | 36 => 96 | 37 => 97 | 38 => 98 | 39 => 99 | 40 => 100 | 41 => 101 | 42 => 102 | 43 => 103 | 44 => 104 | 45 => 105 | 46 => 106 | 47 => 107 | 48 => 108 | 49 => 109 | 50 => 110 | 51 => 111 | 52 => 112 | 53 => 113 | 54 => 114 | 55 => 115 | 56 => 116 | 57 => 117 | 58 => 118 | 59 => 119 | 60 => 6 | _ => 0) = [60, 61, 62, 63, 64, 65, 66, 67, 68, 69, 70, 71, 72, 73, 74, 75, 76, 77, 78, 79, 80, 81, 82, 83, 84, 85, 86, 87, 88, 89, 90, 91, 92, 93, 94, 95, 96, 97, 98, 99, 100, 101, 102, 103, 104, 105, 106, 107, 108, 109, 110, 111, 112, 113, 114, 115, 116, 117, 118, 119, 6] := by rfl
          rw [hs] at hA
          have hac := hA.act (fun t ht => by
            have h8 : t = 60 ∨ t = 61 ∨ t = 62 ∨ t = 63 ∨ t = 64 ∨ t = 65 ∨ t = 66 ∨ t = 67 ∨ t = 68 ∨ t = 69 ∨ t = 70 ∨ t = 71 ∨ t = 72 ∨ t = 73 ∨ t = 74 ∨ t = 75 ∨ t = 76 ∨ t = 77 ∨ t = 78 ∨ t = 79 ∨ t = 80 ∨ t = 81 ∨ t = 82 ∨ t = 83 ∨ t = 84 ∨ t = 85 ∨ t = 86 ∨ t = 87 ∨ t = 88 ∨ t = 89 ∨ t = 90 ∨ t = 91 ∨ t = 92 ∨ t = 93 ∨ t = 94 ∨ t = 95 ∨ t = 96 ∨ t = 97 ∨ t = 98 ∨ t = 99 ∨ t = 100 ∨ t = 101 ∨ t = 102 ∨ t = 103 ∨ t = 104 ∨ t = 105 ∨ t = 106 ∨ t = 107 ∨ t = 108 ∨ t = 109 ∨ t = 110 ∨ t = 111 ∨ t = 112 ∨ t = 113 ∨ t = 114 ∨ t = 115 ∨ t = 116 ∨ t = 117 ∨ t = 118 ∨ t = 119 ∨ t = 6 := by simpa using ht
            rcases h8 with rfl | rfl | rfl | rfl | rfl | rfl | rfl | rfl | rfl | rfl | rfl | rfl | rfl | rfl | rfl | rfl | rfl | rfl | rfl | rfl | rfl | rfl | rfl | rfl | rfl | rfl | rfl | rfl | rfl | rfl | rfl | rfl | rfl | rfl | rfl | rfl | rfl | rfl | rfl | rfl | rfl | rfl | rfl | rfl | rfl | rfl | rfl | rfl | rfl | rfl | rfl | rfl | rfl | rfl | rfl | rfl | rfl | rfl | rfl | rfl | rfl <;> exact Nat.lt_of_lt_of_le (by decide : _ < 120) (Nat.le_refl 120))
          rw [List.foldl_cons, List.foldl_cons, List.foldl_cons, List.foldl_cons, List.foldl_cons, List.foldl_cons, List.foldl_cons, List.foldl_cons, List.foldl_cons, List.foldl_cons, List.foldl_cons, List.foldl_cons, List.foldl_cons, List.foldl_cons, List.foldl_cons, List.foldl_cons, List.foldl_cons, List.foldl_cons, List.foldl_cons, List.foldl_cons, List.foldl_cons, List.foldl_cons, List.foldl_cons, List.foldl_cons, List.foldl_cons, List.foldl_cons, List.foldl_cons, List.foldl_cons, List.foldl_cons, List.foldl_cons, List.foldl_cons, List.foldl_cons, List.foldl_cons, List.foldl_cons, List.foldl_cons, List.foldl_cons, List.foldl_cons, List.foldl_cons, List.foldl_cons, List.foldl_cons, List.foldl_cons, List.foldl_cons, List.foldl_cons, List.foldl_cons, List.foldl_cons, List.foldl_cons, List.foldl_cons, List.foldl_cons, List.foldl_cons, List.foldl_cons, List.foldl_cons, List.foldl_cons, List.foldl_cons, List.foldl_cons, List.foldl_cons, List.foldl_cons, List.foldl_cons, List.foldl_cons, List.foldl_cons, List.foldl_cons, List.foldl_cons, List.foldl_nil] at hac
          have HB9 := Lib.hid (bstep HB8.out hB HB8.out.size)
          have z6 : sl ac 6 = .bool true := hU 60 (by omega)
          clear hU hB
          generalize sl ac 60 = x60 at hac z6
          generalize sl ac 61 = x61 at hac z6
          generalize sl ac 62 = x62 at hac z6
          generalize sl ac 63 = x63 at hac z6
          generalize sl ac 64 = x64 at hac z6
          generalize sl ac 65 = x65 at hac z6
          generalize sl ac 66 = x66 at hac z6
          generalize sl ac 67 = x67 at hac z6
          generalize sl ac 68 = x68 at hac z6
          generalize sl ac 69 = x69 at hac z6
          generalize sl ac 70 = x70 at hac z6
          generalize sl ac 71 = x71 at hac z6
          generalize sl ac 72 = x72 at hac z6
          generalize sl ac 73 = x73 at hac z6
          generalize sl ac 74 = x74 at hac z6
          generalize sl ac 75 = x75 at hac z6
          generalize sl ac 76 = x76 at hac z6
          generalize sl ac 77 = x77 at hac z6
          generalize sl ac 78 = x78 at hac z6
          generalize sl ac 79 = x79 at hac z6
          generalize sl ac 80 = x80 at hac z6
          generalize sl ac 81 = x81 at hac z6
          generalize sl ac 82 = x82 at hac z6
          generalize sl ac 83 = x83 at hac z6
          generalize sl ac 84 = x84 at hac z6
          generalize sl ac 85 = x85 at hac z6
          generalize sl ac 86 = x86 at hac z6
          generalize sl ac 87 = x87 at hac z6
          generalize sl ac 88 = x88 at hac z6
          generalize sl ac 89 = x89 at hac z6
          generalize sl ac 90 = x90 at hac z6
          generalize sl ac 91 = x91 at hac z6
          generalize sl ac 92 = x92 at hac z6
          generalize sl ac 93 = x93 at hac z6
          generalize sl ac 94 = x94 at hac z6
          generalize sl ac 95 = x95 at hac z6
          generalize sl ac 96 = x96 at hac z6
          generalize sl ac 97 = x97 at hac z6
          generalize sl ac 98 = x98 at hac z6
          generalize sl ac 99 = x99 at hac z6
          generalize sl ac 100 = x100 at hac z6
          generalize sl ac 101 = x101 at hac z6
          generalize sl ac 102 = x102 at hac z6
          generalize sl ac 103 = x103 at hac z6
          generalize sl ac 104 = x104 at hac z6
          generalize sl ac 105 = x105 at hac z6
          generalize sl ac 106 = x106 at hac z6
          generalize sl ac 107 = x107 at hac z6
          generalize sl ac 108 = x108 at hac z6
          generalize sl ac 109 = x109 at hac z6
          generalize sl ac 110 = x110 at hac z6
          generalize sl ac 111 = x111 at hac z6
          generalize sl ac 112 = x112 at hac z6
          generalize sl ac 113 = x113 at hac z6
          generalize sl ac 114 = x114 at hac z6
          generalize sl ac 115 = x115 at hac z6
          generalize sl ac 116 = x116 at hac z6
          generalize sl ac 117 = x117 at hac z6
          generalize sl ac 118 = x118 at hac z6
          generalize sl ac 119 = x119 at hac z6
          generalize sl ac 6 = x6 at hac z6
          subst z6
          subst hac
          simp only [Act.put, List.setIfInBounds_toArray, List.set_cons_succ, List.set_cons_zero]
          go_wp2_with fail
          go_ret
          exact ⟨rfl, bstep HV.out HB9.out HV.out.size⟩

end Go.Proofs.YtkonkjaabkmecaaGreatDoor
