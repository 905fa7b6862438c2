/-
  Light objects; what is found among sorted ones.
-/
import Derived.Test.YtbmlmcoepmbelaaDoorObjZ
import Derived.Test.YtbmlmcoepmbelaaDoorRight
set_option linter.unusedVariables false
set_option linter.unusedSimpArgs false
namespace Go.Proofs.YtbmlmcoepmbelaaDoor
open Go.RowKit Go.Sort

/-- Few objects, and small ones. -/
def lightO (os : List Ob) : Bool := decide (os.length ≤ 40) && os.all fun o => o.2.light
theorem light_far {os : List Ob} (h : ¬ os.length ≤ 40) : lightO os = false := by unfold lightO; rw [decide_eq_false h]; rfl
theorem light_bad {os : List Ob} {j : Nat} (hj : j < os.length) (h : os[j].2.light = false) : lightO os = false := by
  unfold lightO
  have : (os.all fun o => o.2.light) = false := by
    rw [Bool.eq_false_iff]
    intro e
    have := List.all_eq_true.1 e os[j] (List.getElem_mem hj)
    rw [h] at this
    cases this
  rw [this, Bool.and_false]
theorem light_good {os : List Ob} (h : os.length ≤ 40) (h2 : ∀ i (hi : i < os.length), os[i].2.light = true) : lightO os = true := by
  unfold lightO
  rw [decide_eq_true h, Bool.true_and, List.all_eq_true]
  intro o ho
  obtain ⟨i, hi, rfl⟩ := List.getElem_of_mem ho
  exact h2 i hi
theorem light_len {os : List Ob} (h : lightO os = true) : os.length ≤ 40 := by
  unfold lightO at h
  simp only [Bool.and_eq_true, decide_eq_true_eq] at h
  exact h.1

set_option maxRecDepth 100000 in
theorem l12Light_any {w : World} {R : Nat → Prop} {os : List Ob} {a : Option Addr} {cap : Nat} (h : SliceO w R os a cap) :
    Calls Tryd.prog 20 #[.slice a os.length cap] w fun e w' => e = .returned (.bool (lightO os)) ∧ Below w.heap.size w w' := by
  have H := Lib.hid h
  have hll := h.hdr.le
  have hbig := h.hdr.big
  clear h
  by_cases h40 : os.length ≤ 40
  case neg =>
    have hg : decide ((40 : Int) < (os.length : Int)) = true := decide_eq_true (by omega)
    have HR := Lib.hid (light_far h40)
    go_enter Tryd.func20, Tryd.ntmps20
    go_wp2_with fail
    go_ret
    exact ⟨ret_bool HR.out.symm, Below.refl _ _⟩
  have hg : decide ((40 : Int) < (os.length : Int)) = false := decide_eq_false (by omega)
  have LB := Lib.hid (fun j (hj : j < os.length) => light_bad (os := os) hj)
  have LG := Lib.hid (light_good h40)
  go_enter Tryd.func20, Tryd.ntmps20
  go_wp2_with fail
  go_loopw [10] (fun v10 wr => ∃ j : Nat, j ≤ os.length ∧ v10 = .int .i64 j ∧ Hid (∀ i (hi : i < os.length), i < j → os[i].2.light = true) ∧ Below w.heap.size w wr) (fun v10 _ => os.length - (intOf v10).toNat)
  case atStart => exact ⟨0, by omega, rfl, fun i _ hi => absurd hi (Nat.not_lt_zero _), Below.refl _ _⟩
  case round =>
    obtain ⟨j, hj, rfl, h0, hbw⟩ := hrel
    have HW := Lib.hid hbw
    by_cases hjl : j < os.length
    · have hL := H.out.each j hjl
      obtain ⟨bl, ol, rfl, r0, r1, r2, r3, r4, r5, r6, r7, r8⟩ := H.out.at hbw hjl
      unfold OC.body at hL
      have LI := Lib.hid (fun w' hb => light_any hL w' hb)
      have LBj := Lib.hid (LB.out j hjl)
      have H0 := h0
      clear hL
      generalize os[j].1.k = x0 at *
      generalize os[j].1.p = x1 at *
      generalize os[j].1.n = x2 at *
      generalize os[j].1.q0 = x3 at *
      generalize os[j].1.q1 = x4 at *
      generalize os[j].1.q2 = x5 at *
      generalize os[j].1.q3 = x6 at *
      generalize os[j].1.q4 = x7 at *
      generalize os[j].1.q4l = x7l at *
      generalize os[j].1.q4c = x7c at *
      generalize os[j].1.q5 = x8 at *
      generalize os[j].1.q5l = x8l at *
      generalize os[j].1.q5c = x8c at *
      have hba := HW.out.alloc HW.out.size (.cells #[.string x0, .string x1, .string x2, .int .i64 x3, .bool x4, .int .i64 x5, .string x6, .slice x7 x7l x7c, .slice x8 x8l x8c] 31)
      have b9 := Box9.new wr #[.string x0, .string x1, .string x2, .int .i64 x3, .bool x4, .int .i64 x5, .string x6, .slice x7 x7l x7c, .slice x8 x8l x8c] 31
      go_upto_region 6 with fail
      clear r0 r1 r2 r3 r4 r5 r6 r7 r8
      generalize wr.alloc (.cells #[.string x0, .string x1, .string x2, .int .i64 x3, .bool x4, .int .i64 x5, .string x6, .slice x7 x7l x7c, .slice x8 x8l x8c] 31) = v9 at *
      have HA := Lib.hid hba
      obtain ⟨y0, y1, y2, y3, y4, y5, y6, y7, y8⟩ := b9.nine
      clear b9 hba
      cases hl : os[j].2.light with
      | false =>
        have HR := Lib.hid (LBj.out hl)
        rw [hl] at LI
        clear hl
        go_wp2_with (go_at_call 6; refine (LI.out _ HA.out).mono ?_; rintro e w1 ⟨rfl, hb1⟩; have HB1 := Lib.hid (bstep HA.out hb1 HA.out.size); clear hb1)
        go_ret
        exact ⟨ret_bool HR.out.symm, HB1.out⟩
      | true =>
        have HR := Lib.hid hl
        rw [hl] at LI
        clear hl
        go_wp2_with (go_at_call 6; refine (LI.out _ HA.out).mono ?_; rintro e w1 ⟨rfl, hb1⟩; have HB1 := Lib.hid (bstep HA.out hb1 HA.out.size); clear hb1)
        go_roundw
        case rel => exact ⟨j + 1, by omega, by go_num, fun i hi hij => by
          by_cases e : i = j
          · subst e; exact HR.out
          · exact H0.out i hi (by omega), HB1.out⟩
        case measure => simp [intOf]; omega
    · obtain rfl : j = os.length := by omega
      have HR := Lib.hid (LG.out fun i hi => h0.out i hi hi)
      go_wp2_with fail
      go_ret
      exact ⟨ret_bool HR.out.symm, hbw⟩

/-! ### What is found -/

theorem isO_same {k p n : ByteArray} {x : OC} (h : isO k p n x = true) : x.k = k ∧ x.p = p ∧ x.n = n := of_decide_eq_true h
/-- Among sorted objects each one stands at a place, and none ahead is known so. -/
theorem found_at {os os' ss : List Ob} (hp : os'.Perm os) (hst : ∀ i j (hi : i < os'.length) (hj : j < os'.length), i < j → ordO os'[i].1 os'[j].1 < 0) (hl : ss.length = os'.length) (hs : ∀ i (h : i < os'.length) (h' : i < ss.length), SameOb ss[i] os'[i]) (i : Nat) (hi : i < os.length) :
    ∃ j, ∃ hj : j < ss.length, (∀ i' (hi' : i' < ss.length), i' < j → isO os[i].1.k os[i].1.p os[i].1.n ss[i'].1 = false) ∧ isO os[i].1.k os[i].1.p os[i].1.n ss[j].1 = true ∧ ss[j].2 = os[i].2 := by
  obtain ⟨j, hj, e⟩ := List.getElem_of_mem (hp.mem_iff.2 (List.getElem_mem hi))
  have hj2 : j < ss.length := by omega
  obtain ⟨⟨s1, s2, s3⟩, s4⟩ := hs j hj hj2
  refine ⟨j, hj2, fun i' hi' hij => ?_, ?_, ?_⟩
  · cases hc : isO os[i].1.k os[i].1.p os[i].1.n ss[i'].1 with
    | false => rfl
    | true =>
      obtain ⟨a1, a2, a3⟩ := isO_same hc
      have hi2 : i' < os'.length := by omega
      obtain ⟨⟨b1, b2, b3⟩, _⟩ := hs i' hi2 hi'
      have hlt := hst i' j hi2 hj hij
      have he : ordO os'[i'].1 os'[j].1 = 0 := by
        unfold ordO
        rw [← b1, ← b2, ← b3, a1, a2, a3, e]
        exact cmpO_self _ _ _
      omega
  · rw [← e]
    exact decide_eq_true ⟨s1, s2, s3⟩
  · rw [s4, e]

/-- The first pair of a map. -/
theorem map_first {w : World} {R : Nat → Prop} {t : T} {f0 : Int} {f1 : Bool} {f2 : Int} {f3 : ByteArray} {f4 : Option Addr} {f4l f4c : Nat} {f5 : Option Addr} {f5l f5c : Nat} (h : Lies w R t #[.int .i64 f0, .bool f1, .int .i64 f2, .string f3, .slice f4 f4l f4c, .slice f5 f5l f5c]) (hn : 0 < f5l) : ∃ bm om k, f5 = some ⟨bm, om, none⟩ ∧ R bm ∧ w.cell? ⟨bm, om + 1, none⟩ = some (.int .i64 k) ∧ 1 ≤ f5c := by
  cases h with
  | mk k b n s l m la lc ma mc cl cm hk hn2 hs hl hm rl rm ks il im =>
    obtain ⟨bm, om, e, hR⟩ := hm.some hn
    have hr := rm 0 hn bm om e
    obtain ⟨g0, g1, g2, g3, g4, g4l, g4c, g5, g5l, g5c, eg⟩ := (im 0 hn).six
    rw [eg] at hr
    have := hr 1 (by simp)
    rw [Nat.zero_mul, Nat.add_zero] at this
    have hle := hm.le
    exact ⟨bm, om, g0, e, hR, this, by omega⟩

end Go.Proofs.YtbmlmcoepmbelaaDoor
