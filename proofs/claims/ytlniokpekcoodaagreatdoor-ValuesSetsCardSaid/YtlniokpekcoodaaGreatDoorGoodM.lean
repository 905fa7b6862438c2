/-
  What follows of a value that may be; two of these that compare as 0 are one.
-/
import Derived.Test.YtlniokpekcoodaaGreatDoorRightM
import Derived.Test.YtlniokpekcoodaaGreatDoorOverZM
import Derived.Test.YtlniokpekcoodaaGreatDoorPathCM
import Derived.Test.YtlniokpekcoodaaGreatDoorCloneP
import Derived.Lib.QuietBelow
set_option linter.unusedVariables false
set_option linter.unusedSimpArgs false
namespace Go.Proofs.YtlniokpekcoodaaGreatDoor
open Go.RowKit

theorem firstNZ_all : ∀ (l : List Int), firstNZ l = 0 → ∀ x ∈ l, x = 0
  | [], _, _, h => by cases h
  | y :: r, h, x, hx => by
    by_cases hy : y = 0
    · rw [firstNZ, if_pos hy] at h
      rcases List.mem_cons.1 hx with rfl | hx
      · exact hy
      · exact firstNZ_all r h x hx
    · rw [firstNZ, if_neg hy] at h
      exact absurd h hy

theorem pcode_zero {m : List (ByteArray × T)} {i : Nat} (hi : i < m.length) (h : pcode m i = 0) : keyB m[i].1 = true ∧ (∀ h0 : 0 < i, leS m[i].1 (m[i - 1]'(by omega)).1 = false) ∧ m[i].2.parts = 0 := by
  cases hk : keyB m[i].1 with
  | false => rw [pcode_key m i hi hk] at h; omega
  | true =>
    by_cases hp : ∀ h0 : 0 < i, leS m[i].1 (m[i - 1]'(by omega)).1 = false
    · rw [pcode_in m i hi hk hp] at h
      exact ⟨rfl, hp, h⟩
    · obtain ⟨h0, h1⟩ := Classical.not_forall.1 hp
      rw [pcode_twice m i hi hk h0 (by simpa using h1)] at h
      omega

/-- A value that may be, part by part. -/
structure PartsOk (k : Int) (b : Bool) (n : Int) (s : ByteArray) (l : List T) (m : List (ByteArray × T)) : Prop where
  kind : kindBad k b n s.toList.isEmpty l.length m.length = false
  text : textB s = true
  list : ∀ x ∈ l, x.parts = 0
  keys : ∀ i (hi : i < m.length), keyB m[i].1 = true
  rise : ∀ i (hi : i < m.length) (h0 : 0 < i), leS m[i].1 (m[i - 1]'(by omega)).1 = false
  map : ∀ q ∈ m, q.2.parts = 0

theorem parts_zero {k : Int} {b : Bool} {n : Int} {s : ByteArray} {l : List T} {m : List (ByteArray × T)} (h : (T.mk k b n s l m).parts = 0) : PartsOk k b n s l m := by
  cases hk : kindBad k b n s.toList.isEmpty l.length m.length with
  | true => rw [parts_kind hk] at h; omega
  | false =>
    cases ht : textB s with
    | false => rw [parts_text hk ht] at h; omega
    | true =>
      have hl : ∀ x ∈ l, x.parts = 0 := by
        rw [T.parts_mk, if_neg (by simp [hk]), if_neg (by simp [ht])] at h
        by_cases hz : firstNZ (l.map T.parts) = 0
        · exact fun x hx => firstNZ_all _ hz _ (List.mem_map.2 ⟨x, hx, rfl⟩)
        · rw [if_pos hz] at h
          exact absurd h hz
      have hm : ∀ i, i < m.length → pcode m i = 0 := fun i hi => by
        rw [T.parts_mk, if_neg (by simp [hk]), if_neg (by simp [ht]), if_neg (by
          rw [Classical.not_not]
          exact firstNZ_zero _ fun x hx => by obtain ⟨y, hy, rfl⟩ := List.mem_map.1 hx; exact hl y hy)] at h
        unfold partsP at h
        exact firstNZ_all _ h _ (List.mem_map.2 ⟨i, by simpa using hi, rfl⟩)
      refine ⟨hk, ht, hl, fun i hi => (pcode_zero hi (hm i hi)).1, fun i hi h0 => (pcode_zero hi (hm i hi)).2.1 h0, fun q hq => ?_⟩
      obtain ⟨i, hi, rfl⟩ := List.getElem_of_mem hq
      exact (pcode_zero hi (hm i hi)).2.2

theorem empty_of_isEmpty {s : ByteArray} (h : s.toList.isEmpty = true) : s = ⟨#[]⟩ := by
  apply toList_inj
  rw [List.isEmpty_iff] at h
  rw [h, ByteArray.toList_eq]

/-- By the kind: what isn't of that kind is empty. -/
theorem kind_parts {k : Int} {b : Bool} {n : Int} {s : ByteArray} {l : List T} {m : List (ByteArray × T)} (h : kindBad k b n s.toList.isEmpty l.length m.length = false) :
    0 ≤ k ∧ k ≤ 5 ∧ (k ≠ 1 → b = false) ∧ (k ≠ 2 → n = 0) ∧ (k ≠ 3 → s = ⟨#[]⟩) ∧ (k ≠ 4 → l = []) ∧ (k ≠ 5 → m = []) := by
  unfold kindBad at h
  simp only [Bool.or_eq_false_iff, Bool.and_eq_false_iff, Bool.not_eq_false', decide_eq_false_iff_not, decide_eq_true_eq, Bool.not_eq_true'] at h
  obtain ⟨⟨⟨⟨⟨⟨h0, h5⟩, hb⟩, hn⟩, hs⟩, hl⟩, hm⟩ := h
  refine ⟨by omega, by omega, fun q => ?_, fun q => ?_, fun q => ?_, fun q => ?_, fun q => ?_⟩
  · rcases hb with hb | hb
    · exact absurd hb q
    · exact hb
  · rcases hn with hn | hn
    · exact absurd hn q
    · exact hn
  · rcases hs with hs | hs
    · exact absurd hs q
    · exact empty_of_isEmpty hs
  · rcases hl with hl | hl
    · exact absurd hl q
    · exact List.eq_nil_of_length_eq_zero (by omega)
  · rcases hm with hm | hm
    · exact absurd hm q
    · exact List.eq_nil_of_length_eq_zero (by omega)

theorem good_parts {t : T} (h : t.good = true) : t.parts = 0 := by
  unfold T.good at h
  simp only [Bool.and_eq_true, decide_eq_true_eq] at h
  have h2 := h.2
  unfold T.check at h2
  by_cases hd : 16 < t.depth
  · rw [if_pos hd] at h2; omega
  · by_cases hz : 4096 < t.size
    · rw [if_neg hd, if_pos hz] at h2; omega
    · rw [if_neg hd, if_neg hz] at h2; exact h2

/-- Are two trees one? -/
noncomputable def T.same (t u : T) : Bool := @decide (t = u) (Classical.propDecidable _)
theorem T.same_of_eq {t u : T} (h : t = u) : T.same t u = true := @decide_eq_true _ (Classical.propDecidable _) h
theorem T.same_of_ne {t u : T} (h : t ≠ u) : T.same t u = false := @decide_eq_false _ (Classical.propDecidable _) h
theorem T.same_self (t : T) : T.same t t = true := T.same_of_eq rfl
end Go.Proofs.YtlniokpekcoodaaGreatDoor

/-
  What is laid over others, where the keys rise: what stands under a key.
-/
set_option linter.unusedVariables false
set_option linter.unusedSimpArgs false
namespace Go.Proofs.YtlniokpekcoodaaGreatDoor
open Go.RowKit

theorem bl_cons (x y : UInt8) (r q : List UInt8) : Op.bytesLess (x :: r) (y :: q) = true ↔ x.toNat < y.toNat ∨ (x.toNat = y.toNat ∧ Op.bytesLess r q = true) := by
  rw [Op.bytesLess]
  simp only [Bool.or_eq_true, Bool.and_eq_true, decide_eq_true_eq, beq_iff_eq, UInt8.lt_iff_toNat_lt, ← UInt8.toNat_inj]
theorem bl_trans : ∀ a b c : List UInt8, Op.bytesLess a b = true → Op.bytesLess b c = true → Op.bytesLess a c = true
  | _, [], _, h, _ => by rw [Op.bytesLess] at h; cases h
  | _, _ :: _, [], _, h => by rw [Op.bytesLess] at h; cases h
  | [], _ :: _, _ :: _, _, _ => by rw [Op.bytesLess]
  | x :: r, y :: q, z :: p, h1, h2 => by
    rw [bl_cons] at h1 h2 ⊢
    rcases h1 with h1 | ⟨h1, h1'⟩ <;> rcases h2 with h2 | ⟨h2, h2'⟩
    · left; omega
    · left; omega
    · left; omega
    · right; exact ⟨by omega, bl_trans r q p h1' h2'⟩
theorem bl_total : ∀ a b : List UInt8, Op.bytesLess a b = false → a ≠ b → Op.bytesLess b a = true
  | [], [], _, h => absurd rfl h
  | [], _ :: _, h, _ => by rw [Op.bytesLess] at h; cases h
  | _ :: _, [], _, _ => by rw [Op.bytesLess]
  | x :: r, y :: q, h, hn => by
    have h' : ¬ Op.bytesLess (x :: r) (y :: q) = true := by simp [h]
    rw [bl_cons] at h'
    rw [bl_cons]
    by_cases e : x.toNat = y.toNat
    · right
      refine ⟨e.symm, bl_total r q ?_ ?_⟩
      · cases hh : Op.bytesLess r q with
        | false => rfl
        | true => exact absurd (.inr ⟨e, hh⟩) h'
      · intro e2; exact hn (by rw [e2, UInt8.toNat_inj.1 e])
    · left; omega
theorem ltS_trans {a b c : ByteArray} (h : ltS a b = true) (h2 : ltS b c = true) : ltS a c = true := bl_trans _ _ _ h h2
theorem ltS_total {a b : ByteArray} (h : ltS a b = false) (hn : a ≠ b) : ltS b a = true := bl_total _ _ h fun e => hn (toList_inj e)
theorem ltS_nee {a b : ByteArray} (h : ltS a b = true) : a ≠ b := ltS_ne h bytesLess_irr

/-- The keys rise. -/
def Asc (ps : Prs) : Prop := ps.Pairwise fun p q => ltS p.1 q.1 = true

theorem asc_of_rise : ∀ (m : Prs), (∀ i (hi : i < m.length) (h0 : 0 < i), leS m[i].1 (m[i - 1]'(by omega)).1 = false) → Asc m := by
  intro m h
  have step : ∀ i (hi : i + 1 < m.length), ltS (m[i]'(by omega)).1 m[i + 1].1 = true := fun i hi => by
    have := h (i + 1) hi (by omega)
    rcases les_cases m[i + 1].1 (m[i + 1 - 1]'(by omega)).1 with ⟨h1, _⟩ | ⟨h1, _⟩ | ⟨_, h2, h3⟩
    · rw [h1] at this; cases this
    · rw [h1] at this; cases this
    · exact ltS_total h2 fun e => by rw [e] at h3; simp at h3
  unfold Asc
  rw [List.pairwise_iff_getElem]
  intro i j hi hj hij
  obtain ⟨d, rfl⟩ : ∃ d, j = i + 1 + d := ⟨j - (i + 1), by omega⟩
  clear hij
  induction d with
  | zero => exact step i (by omega)
  | succ d ih =>
    have h1 := ih (by omega)
    have h2 := step (i + 1 + d) (by omega)
    exact ltS_trans h1 h2

theorem Asc.head {p : ByteArray × T} {r : Prs} (h : Asc (p :: r)) : ∀ q ∈ r, ltS p.1 q.1 = true := (List.pairwise_cons.1 h).1
theorem Asc.tail {p : ByteArray × T} {r : Prs} (h : Asc (p :: r)) : Asc r := (List.pairwise_cons.1 h).2

theorem findR_none {key : ByteArray} {ps : Prs} (h : ∀ q ∈ ps, q.1 ≠ key) : findR key ps = none := by
  unfold findR
  rw [List.find?_eq_none.2 fun q hq => by simpa using h q hq]
  rfl
/-- What stands under a key of what is laid over. -/
def overAt (was : Option T) : Option T → Option T
  | none => was
  | some x => if x.kind = 0 then none else some (T.over (was.getD T.nil) x)

end Go.Proofs.YtlniokpekcoodaaGreatDoor

/-
  The reference's Same: are two values one?
-/
set_option linter.unusedVariables false
set_option linter.unusedSimpArgs false
namespace Go.Proofs.YtlniokpekcoodaaGreatDoor
open Go.RowKit Go.Sort

theorem T.same_true {t u : T} (h : T.same t u = true) : t = u := @of_decide_eq_true _ (Classical.propDecidable _) h
theorem T.same_false {t u : T} (h : T.same t u = false) : t ≠ u := fun e => by rw [T.same_of_eq e] at h; cases h

theorem list_eq {α : Type} {l l' : List α} (hn : l.length = l'.length) (h : ∀ i (p : i < l.length) (q : i < l'.length), i < l.length → l[i] = l'[i]) : l = l' := List.ext_getElem hn fun i p q => h i p q p

set_option maxHeartbeats 1600000 in
theorem rSame_any {w0 : World} {R1 : Nat → Prop} {t : T} {cs : Array Value} (h : Lies w0 R1 t cs) : ∀ {R2 : Nat → Prop} {u : T} {ds : Array Value} (_ : Lies w0 R2 u ds) (w : World), Below w0.heap.size w0 w →
    Calls Tryz.prog 12 #[.agg cs, .agg ds] w fun e w' => e = .returned (.bool (T.same t u)) ∧ Below w.heap.size w w' := by
  induction h with
  | mk k b n s l m la lc ma mc cl cm hk hn hs hl hm rl rm ks il im ihl ihm =>
    intro R2 u ds hu w hw
    cases hu with
    | mk k2 b2 n2 s2 l2 m2 la2 lc2 ma2 mc2 cl2 cm2 hk2 hn2 hs2 hl2 hm2 rl2 rm2 ks2 il2 im2 =>
      have HB := Lib.hid (((Below.refl w.heap.size w).alloc (Nat.le_refl _) (.cells #[.int .i64 k, .bool b, .int .i64 n, .string s, .slice la l.length lc, .slice ma m.length mc] 25)).alloc (by simp) (.cells #[.int .i64 k2, .bool b2, .int .i64 n2, .string s2, .slice la2 l2.length lc2, .slice ma2 m2.length mc2] 25))
      have CL := Lib.hid (fun i (p : i < l.length) (q : i < l2.length) w hw => ihl i p (il2 i q) w hw)
      have CM := Lib.hid (fun i (p : i < m.length) (q : i < m2.length) w hw => ihm i p (im2 i q) w hw)
      have RL := Lib.hid rl
      have RL2 := Lib.hid rl2
      have RM := Lib.hid rm
      have RM2 := Lib.hid rm2
      have IL := Lib.hid il
      have IL2 := Lib.hid il2
      have IM := Lib.hid im
      have IM2 := Lib.hid im2
      clear rl rl2 rm rm2 il il2 im im2 ihl ihm ks ks2
      by_cases e1 : k = k2
      case neg =>
        have HR := Lib.hid (T.same_of_ne (t := .mk k b n s l m) (u := .mk k2 b2 n2 s2 l2 m2) fun e => e1 (by injection e))
        have f1 : (k != k2) = true := by simp [e1]
        clear e1
        go_enter Tryz.func12, Tryz.ntmps12
        go_wp2_with fail
        go_ret
        exact ⟨ret_bool HR.out.symm, HB.out⟩
      subst e1
      by_cases e2 : b = b2
      case neg =>
        have HR := Lib.hid (T.same_of_ne (t := .mk k b n s l m) (u := .mk k b2 n2 s2 l2 m2) fun e => e2 (by injection e))
        have f1 : (b == b2) = false := by simp [e2]
        clear e2
        go_enter Tryz.func12, Tryz.ntmps12
        go_wp2_with fail
        go_ret
        exact ⟨ret_bool HR.out.symm, HB.out⟩
      subst e2
      by_cases e3 : n = n2
      case neg =>
        have HR := Lib.hid (T.same_of_ne (t := .mk k b n s l m) (u := .mk k b n2 s2 l2 m2) fun e => e3 (by injection e))
        have f1 : (n != n2) = true := by simp [e3]
        clear e3
        go_enter Tryz.func12, Tryz.ntmps12
        go_wp2_with fail
        go_ret
        exact ⟨ret_bool HR.out.symm, HB.out⟩
      subst e3
      by_cases e4 : s = s2
      case neg =>
        have HR := Lib.hid (T.same_of_ne (t := .mk k b n s l m) (u := .mk k b n s2 l2 m2) fun e => e4 (by injection e))
        have f1 := str_ne e4
        clear e4
        go_enter Tryz.func12, Tryz.ntmps12
        go_wp2_with fail
        go_ret
        exact ⟨ret_bool HR.out.symm, HB.out⟩
      subst e4
      by_cases e5 : l.length = l2.length
      case neg =>
        have HR := Lib.hid (T.same_of_ne (t := .mk k b n s l m) (u := .mk k b n s l2 m2) fun e => e5 (by injection e with _ _ _ _ a _; rw [a]))
        have f1 : ((l.length : Int) != (l2.length : Int)) = true := by simp; omega
        clear e5
        go_enter Tryz.func12, Tryz.ntmps12
        go_wp2_with fail
        go_ret
        exact ⟨ret_bool HR.out.symm, HB.out⟩
      by_cases e6 : m.length = m2.length
      case neg =>
        have HR := Lib.hid (T.same_of_ne (t := .mk k b n s l m) (u := .mk k b n s l2 m2) fun e => e6 (by injection e with _ _ _ _ _ a; rw [a]))
        have f0 : ((l.length : Int) != (l2.length : Int)) = false := by simp [e5]
        have f1 : ((m.length : Int) != (m2.length : Int)) = true := by simp; omega
        clear e6 e5
        go_enter Tryz.func12, Tryz.ntmps12
        go_wp2_with fail
        go_ret
        exact ⟨ret_bool HR.out.symm, HB.out⟩
      have f0 : ((l.length : Int) != (l2.length : Int)) = false := by simp [e5]
      have f1 : ((m.length : Int) != (m2.length : Int)) = false := by simp [e6]
      have NL := Lib.hid (fun j (p : j < l.length) (q : j < l2.length) (hne : l[j] ≠ l2[j]) => T.same_of_ne (t := .mk k b n s l m) (u := .mk k b n s l2 m2) fun e => hne (by injection e with _ _ _ _ a _; subst a; rfl))
      have NK := Lib.hid (fun j (p : j < m.length) (q : j < m2.length) (hne : m[j].1 ≠ m2[j].1) => T.same_of_ne (t := .mk k b n s l m) (u := .mk k b n s l2 m2) fun e => hne (by injection e with _ _ _ _ _ a; subst a; rfl))
      have NM := Lib.hid (fun j (p : j < m.length) (q : j < m2.length) (hne : m[j].2 ≠ m2[j].2) => T.same_of_ne (t := .mk k b n s l m) (u := .mk k b n s l2 m2) fun e => hne (by injection e with _ _ _ _ _ a; subst a; rfl))
      have NE := Lib.hid (fun (p : l = l2) (q : m = m2) => T.same_of_eq (t := .mk k b n s l m) (u := .mk k b n s l2 m2) (by rw [p, q]))
      have L5 := Lib.hid e5
      have L6 := Lib.hid e6
      clear e5 e6
      have ll := hl.le
      have lx := hl.big
      have ll2 := hl2.le
      have lm := hm.le
      have lmx := hm.big
      have lm2 := hm2.le
      go_enter Tryz.func12, Tryz.ntmps12
      go_wp2_with fail
      go_loopw [5] (fun vi wr => ∃ j : Nat, j ≤ l.length ∧ vi = .int .i64 j ∧ Hid (∀ i (p : i < l.length) (q : i < l2.length), i < j → l[i] = l2[i]) ∧ Below (w.heap.size + 2) ((w.alloc (.cells #[.int .i64 k, .bool b, .int .i64 n, .string s, .slice la l.length lc, .slice ma m.length mc] 25)).alloc (.cells #[.int .i64 k, .bool b, .int .i64 n, .string s, .slice la2 l2.length lc2, .slice ma2 m2.length mc2] 25)) wr) (fun vi _ => l.length - (intOf vi).toNat)
      case atStart => exact ⟨0, by omega, rfl, fun i _ _ hi => absurd hi (Nat.not_lt_zero _), Below.refl _ _⟩
      case round =>
        obtain ⟨j, hj, rfl, h0, hbw⟩ := hrel
        have hsz : w.heap.size + 2 ≤ wr.heap.size := by have := hbw.size; simp at this; omega
        have hend : Below w.heap.size w wr := bstep HB.out hbw (by omega)
        have hbw2 := bstep hw hend hw.size
        obtain ⟨q0, q1, _, _⟩ := two_boxes hbw (by omega)
        by_cases hjl : j < l.length
        · have hj2 : j < l2.length := by have := L5.out; omega
          have b4 : wr.cell? ⟨w.heap.size, 4, none⟩ = some (.slice la l.length lc) := q0 4
          have d4 : wr.cell? ⟨w.heap.size + 1, 4, none⟩ = some (.slice la2 l2.length lc2) := q1 4
          have b4r := cell_regrown b4
          have d4r := cell_regrown d4
          clear q0 q1
          have CJ0 := CL.out j hjl hj2
          obtain ⟨bl, ol, c0, c1', c2', c3, c4, c4l, c4c, c5, c5l, c5c, rfl, hcl, r0, r1, r2, r3, r4, r5⟩ := openL hbw2 hl RL.out hjl (IL.out j hjl)
          obtain ⟨bl2, ol2, d0, d1, d2, d3, g4, g4l, g4c, g5, g5l, g5c, rfl, hdl, s0, s1, s2, s3, s4, s5⟩ := openL hbw2 hl2 RL2.out hj2 (IL2.out j hj2)
          rw [hcl, hdl] at CJ0
          clear hcl hdl
          have r0 := cell_regrown r0
          have r1 := cell_regrown r1
          have r2 := cell_regrown r2
          have r3 := cell_regrown r3
          have r4 := cell_regrown r4
          have r5 := cell_regrown r5
          have s0 := cell_regrown s0
          have s1 := cell_regrown s1
          have s2 := cell_regrown s2
          have s3 := cell_regrown s3
          have s4 := cell_regrown s4
          have s5 := cell_regrown s5
          cases hz : T.same l[j] l2[j] with
          | false =>
            rw [hz] at CJ0
            have CJ := fun dd os => Calls.regrown_of (CJ0 (grow (redrawn wr dd) os) (bstep hbw2 (below_regrown wr dd os) hbw2.size))
            have HZ := Lib.hid (NL.out j hjl hj2 (T.same_false hz))
            clear hz CJ0
            go_wp2_with fail
            refine wp_region_quiet_below (by kernel_rfl) (by kernel_rfl) ?_
            repeat (go_big_quiet_step (fail))
            go_big_quiet_step (exact CJ _ _)
            repeat (go_big_quiet_step (fail))
            refine wpQuiet_nil ?_
            intro _ hw'
            obtain ⟨⟨dq, osq⟩, hw''⟩ := hw'
            subst hw''
            have hbq := below_regrown wr dq osq
            simp only []
            generalize grow (redrawn wr dq) osq = w6 at hbq ⊢

            go_wp2_with fail
            go_ret
            exact ⟨ret_bool HZ.out.symm, bstep hend hbq hend.size⟩
          | true =>
            rw [hz] at CJ0
            have CJ := fun dd os => Calls.regrown_of (CJ0 (grow (redrawn wr dd) os) (bstep hbw2 (below_regrown wr dd os) hbw2.size))
            have HZ := Lib.hid (T.same_true hz)
            clear hz CJ0
            go_wp2_with fail
            refine wp_region_quiet_below (by kernel_rfl) (by kernel_rfl) ?_
            repeat (go_big_quiet_step (fail))
            go_big_quiet_step (exact CJ _ _)
            repeat (go_big_quiet_step (fail))
            refine wpQuiet_nil ?_
            intro _ hw'
            obtain ⟨⟨dq, osq⟩, hw''⟩ := hw'
            subst hw''
            have hbq := below_regrown wr dq osq
            simp only []
            generalize grow (redrawn wr dq) osq = w6 at hbq ⊢

            go_wp2_with fail
            go_roundw
            case rel => exact ⟨j + 1, by omega, by go_num, fun i p q hij => by
              by_cases e : i = j
              · subst e; exact HZ.out
              · exact h0.out i p q (by omega), bstep hbw hbq hsz⟩
            case measure => simp [intOf]; omega
        · obtain rfl : j = l.length := by omega
          have b4 : wr.cell? ⟨w.heap.size, 4, none⟩ = some (.slice la l.length lc) := q0 4
          clear q0 q1
          have HLL := Lib.hid (list_eq L5.out h0.out)
          go_wp2_with fail
          obtain ⟨wo, rfl⟩ : ∃ wo : World, wo = wr := ⟨_, rfl⟩
          have HO := Lib.hid hbw
          have HE := Lib.hid hend
          have HW := Lib.hid hbw2
          clear b4 h0 hbw hend hbw2 CL NL RL RL2 IL IL2
          go_loopw [6] (fun vi wr => ∃ j : Nat, j ≤ m.length ∧ vi = .int .i64 j ∧ Hid (∀ i (p : i < m.length) (q : i < m2.length), i < j → m[i] = m2[i]) ∧ Below wo.heap.size wo wr) (fun vi _ => m.length - (intOf vi).toNat)
          case atStart => exact ⟨0, by omega, rfl, fun i _ _ hi => absurd hi (Nat.not_lt_zero _), Below.refl _ _⟩
          case round =>
            obtain ⟨j, hj, rfl, h0, hbx⟩ := hrel
            have hbw := bstep HO.out hbx hsz
            have hend : Below w.heap.size w wr := bstep HE.out hbx HE.out.size
            have hbw2 := bstep HW.out hbx HW.out.size
            have hsx := hbx.size
            obtain ⟨q0, q1, _, _⟩ := two_boxes hbw (by omega)
            by_cases hjl : j < m.length
            · have hj2 : j < m2.length := by have := L6.out; omega
              have b5 : wr.cell? ⟨w.heap.size, 5, none⟩ = some (.slice ma m.length mc) := q0 5
              have d5 : wr.cell? ⟨w.heap.size + 1, 5, none⟩ = some (.slice ma2 m2.length mc2) := q1 5
              have b5r := cell_regrown b5
              have d5r := cell_regrown d5
              clear q0 q1
              have CJ0 := CM.out j hjl hj2
              obtain ⟨bl, ol, c0, c1', c2', c3, c4, c4l, c4c, c5, c5l, c5c, rfl, hcl, r0, r1, r2, r3, r4, r5, r6⟩ := openM hbw2 hm RM.out hjl (IM.out j hjl)
              obtain ⟨bl2, ol2, d0, d1, d2, d3, g4, g4l, g4c, g5, g5l, g5c, rfl, hdl, s0, s1, s2, s3, s4, s5, s6⟩ := openM hbw2 hm2 RM2.out hj2 (IM2.out j hj2)
              rw [hcl, hdl] at CJ0
              clear hcl hdl
              have r0 := cell_regrown r0
              have r1 := cell_regrown r1
              have r2 := cell_regrown r2
              have r3 := cell_regrown r3
              have r4 := cell_regrown r4
              have r5 := cell_regrown r5
              have r6 := cell_regrown r6
              have s0 := cell_regrown s0
              have s1 := cell_regrown s1
              have s2 := cell_regrown s2
              have s3 := cell_regrown s3
              have s4 := cell_regrown s4
              have s5 := cell_regrown s5
              have s6 := cell_regrown s6
              by_cases hky : m[j].1 = m2[j].1
              · have f7 : (m[j].1.toList == m2[j].1.toList) = true := by rw [hky]; simp
                have HK := Lib.hid hky
                clear hky
                cases hz : T.same m[j].2 m2[j].2 with
                | false =>
                  rw [hz] at CJ0
                  have CJ := fun dd os => Calls.regrown_of (CJ0 (grow (redrawn wr dd) os) (bstep hbw2 (below_regrown wr dd os) hbw2.size))
                  have HZ := Lib.hid (NM.out j hjl hj2 (T.same_false hz))
                  clear hz CJ0
                  go_wp2_with fail
                  refine wp_region_quiet_below (by kernel_rfl) (by kernel_rfl) ?_
                  repeat (go_big_quiet_step (fail))
                  go_big_quiet_step (exact CJ _ _)
                  repeat (go_big_quiet_step (fail))
                  refine wpQuiet_nil ?_
                  intro _ hw'
                  obtain ⟨⟨dq, osq⟩, hw''⟩ := hw'
                  subst hw''
                  have hbq := below_regrown wr dq osq
                  simp only []
                  generalize grow (redrawn wr dq) osq = w6 at hbq ⊢

                  go_wp2_with fail
                  go_ret
                  exact ⟨ret_bool HZ.out.symm, bstep hend hbq hend.size⟩
                | true =>
                  rw [hz] at CJ0
                  have CJ := fun dd os => Calls.regrown_of (CJ0 (grow (redrawn wr dd) os) (bstep hbw2 (below_regrown wr dd os) hbw2.size))
                  have HZ := Lib.hid (T.same_true hz)
                  clear hz CJ0
                  go_wp2_with fail
                  refine wp_region_quiet_below (by kernel_rfl) (by kernel_rfl) ?_
                  repeat (go_big_quiet_step (fail))
                  go_big_quiet_step (exact CJ _ _)
                  repeat (go_big_quiet_step (fail))
                  refine wpQuiet_nil ?_
                  intro _ hw'
                  obtain ⟨⟨dq, osq⟩, hw''⟩ := hw'
                  subst hw''
                  have hbq := below_regrown wr dq osq
                  simp only []
                  generalize grow (redrawn wr dq) osq = w6 at hbq ⊢

                  go_wp2_with fail
                  go_roundw
                  case rel => exact ⟨j + 1, by omega, by go_num, fun i p q hij => by
                    by_cases e : i = j
                    · subst e; exact Prod.ext HK.out HZ.out
                    · exact h0.out i p q (by omega), bstep hbx hbq hsx⟩
                  case measure => simp [intOf]; omega
              · have f7 := str_ne hky
                have HZ := Lib.hid (NK.out j hjl hj2 hky)
                clear hky CJ0
                go_wp2_with fail
                refine wp_region_quiet_below (by kernel_rfl) (by kernel_rfl) ?_
                repeat (go_big_quiet_step (fail))
                refine wpQuiet_nil ?_
                intro _ hw'
                obtain ⟨⟨dq, osq⟩, hw''⟩ := hw'
                subst hw''
                have hbq := below_regrown wr dq osq
                simp only []
                generalize grow (redrawn wr dq) osq = w6 at hbq ⊢

                go_wp2_with fail
                go_ret
                exact ⟨ret_bool HZ.out.symm, bstep hend hbq hend.size⟩
            · obtain rfl : j = m.length := by omega
              have b5 : wr.cell? ⟨w.heap.size, 5, none⟩ = some (.slice ma m.length mc) := q0 5
              clear q0 q1
              have HZ := Lib.hid (NE.out HLL.out (list_eq L6.out h0.out))
              go_wp2_with fail
              go_ret
              exact ⟨ret_bool HZ.out.symm, hend⟩

end Go.Proofs.YtlniokpekcoodaaGreatDoor
