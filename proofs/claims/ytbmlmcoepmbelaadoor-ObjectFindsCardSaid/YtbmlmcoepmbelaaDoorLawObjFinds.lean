/-
  ObjectFinds: the law's contract.
-/
import Derived.Test.YtbmlmcoepmbelaaDoorObjI
import Derived.Test.YtbmlmcoepmbelaaDoorObjA
import Derived.Test.YtbmlmcoepmbelaaDoorRSame
set_option linter.unusedVariables false
set_option linter.unusedSimpArgs false
namespace Go.Proofs.YtbmlmcoepmbelaaDoor
open Go.RowKit Go.Sort

def kNone : ByteArray := ⟨#[110, 111, 110, 101, 32, 97, 116, 32, 97, 108, 108]⟩

theorem first_hit {α : Type} (f : α → Bool) (l : List α) (h : ¬ ∀ i (hi : i < l.length), f l[i] = false) : ∃ j, ∃ hj : j < l.length, (∀ i (hi : i < l.length), i < j → f l[i] = false) ∧ f l[j] = true := by
  have : ∀ n, n ≤ l.length → (∀ i (hi : i < l.length), i < n → f l[i] = false) ∨ ∃ j, ∃ hj : j < l.length, (∀ i (hi : i < l.length), i < j → f l[i] = false) ∧ f l[j] = true := by
    intro n
    induction n with
    | zero => intro _; exact .inl fun i _ hi => absurd hi (Nat.not_lt_zero _)
    | succ n ih =>
      intro hn
      rcases ih (by omega) with h0 | h1
      · cases hc : f (l[n]'(by omega)) with
        | true => exact .inr ⟨n, by omega, h0, hc⟩
        | false =>
          refine .inl fun i hi hin => ?_
          by_cases e : i = n
          · subst e; exact hc
          · exact h0 i hi (by omega)
      · exact .inr h1
  rcases this l.length (Nat.le_refl _) with h0 | h1
  · exact absurd (fun i hi => h0 i hi hi) h
  · exact h1

set_option maxRecDepth 100000 in
set_option maxHeartbeats 8000000 in
theorem objectFinds_any {w : World} {R : Nat → Prop} {os : List Ob} {a : Option Addr} {cap : Nat} (h : SliceO w R os a cap) (hw : RankTab w) :
    Calls Tryd.prog 5 #[.slice a os.length cap] w fun e w' => e = .returned (.bool true) ∧ Below w.heap.size w w' := by
  have hlt := hw.lt
  have H := Lib.hid h
  have AW : Hid (∀ w', Below w.heap.size w w' → Calls Tryd.prog 7 #[] w' fun e w2 => e = .returned (.bool true) ∧ Below w'.heap.size w' w2) := fun w' hb => l12awake_any w' (hw.later hb hlt)
  have RT : Hid (∀ w', Below w.heap.size w w' → RankTab w') := fun w' hb => hw.later hb hlt
  have LI := Lib.hid (l12Light_any h)
  have LL := Lib.hid (light_len (os := os))
  have hll := h.hdr.le
  clear h hw
  go_enter Tryd.func5, Tryd.ntmps5
  cases hl : lightO os with
  | false =>
    rw [hl] at LI
    clear hl LL
    go_wp2_with (first
      | (go_at_call 20; refine LI.out.mono ?_; rintro e w2 ⟨rfl, hb2⟩; have HB2 := Lib.hid hb2; clear hb2)
      | (go_at_call 7; refine (AW.out _ HB2.out).mono ?_; rintro e w3 ⟨rfl, hb3⟩; have HB3 := Lib.hid hb3; clear hb3))
    go_ret
    exact ⟨rfl, bstep HB2.out HB3.out HB2.out.size⟩
  | true =>
    rw [hl] at LI
    have h40 := LL.out hl
    clear hl LL
    go_upto_region 3 with (go_at_call 20; refine LI.out.mono ?_; rintro e w2 ⟨rfl, hb2⟩; have HB2 := Lib.hid hb2; clear hb2)
    have H2 := Lib.hid (H.out.later HB2.out)
    have SO : Hid (Calls Tryd.prog 21 #[.slice a os.length cap] w2 fun e w' => (e = .returned (.tuple #[.slice none 0 0, .int .i64 13]) ∧ Below w2.heap.size w2 w') ∨ (∃ (os' ss : List Ob) (sa : Option Addr) (sc : Nat), e = .returned (.tuple #[.slice sa ss.length sc, .int .i64 0]) ∧ Hid (os'.Perm os ∧ (∀ i j (hi : i < os'.length) (hj : j < os'.length), i < j → ordO os'[i].1 os'[j].1 < 0) ∧ ss.length = os'.length ∧ (∀ i (h : i < os'.length) (h' : i < ss.length), SameOb ss[i] os'[i]) ∧ SliceO w' (fun b => w2.heap.size ≤ b) ss sa sc ∧ Below w2.heap.size w2 w'))) :=
      (oSort_any H2.out (by omega) (RT.out w2 HB2.out)).mono fun e w' hh => by
        rcases hh with hh | ⟨os', ss, sa, sc, he, hr⟩
        · exact .inl hh
        · exact .inr ⟨os', ss, sa, sc, he, hr⟩
    go_upto_region 4 with (go_at_call 21; refine SO.out.mono ?_; rintro e w3 (⟨rfl, hb3⟩ | ⟨os', ss, sa, sc, rfl, hall⟩))
    · have HB3 := Lib.hid (bstep HB2.out hb3 HB2.out.size)
      clear hb3
      go_wp2_with (go_at_call 7; refine (AW.out _ HB3.out).mono ?_; rintro e w4 ⟨rfl, hb4⟩; have HB4 := Lib.hid hb4; clear hb4)
      go_ret
      exact ⟨rfl, bstep HB3.out HB4.out HB3.out.size⟩
    · obtain ⟨hpm, hst, hln, hsm, hsl, hb3⟩ := hall.out
      have HB3 := Lib.hid (bstep HB2.out hb3 HB2.out.size)
      have HSL := Lib.hid hsl
      have FA := Lib.hid (fun i (hi : i < os.length) => found_at hpm hst hln hsm i hi)
      have hlen : ss.length = os.length := by rw [hln, hpm.length_eq]
      have HLEN := Lib.hid hlen
      have hsle := hsl.hdr.le
      have hw3 := HB3.out.size
      clear hb3 hpm hst hln hsm hsl hlen hall
      obtain ⟨wz, rfl⟩ : ∃ z : World, z = w3 := ⟨_, rfl⟩
      have hloop := H.out.later HB3.out
      have HL3 := Lib.hid hloop
      clear hloop
      go_wp2_with fail
      go_loopw [32] (fun v32 wr => ∃ j : Nat, j ≤ os.length ∧ v32 = .int .i64 j ∧ Below wz.heap.size wz wr) (fun v32 _ => os.length - (intOf v32).toNat)
      case atStart => exact ⟨0, by omega, rfl, Below.refl _ _⟩
      case round =>
        obtain ⟨j, hj, rfl, hbw⟩ := hrel
        have HW := Lib.hid hbw
        by_cases hjl : j < os.length
        · have hL := HL3.out.each j hjl
          obtain ⟨jf, hjf, hf1, hf2, hf3⟩ := FA.out j hjl
          have FD := Lib.hid (fun w' (hb : Below wz.heap.size wz w') => (oFind_any HSL.out os[j].1.k os[j].1.p os[j].1.n w' hb).2 jf hjf hf1 hf2)
          rw [hf3] at FD
          obtain ⟨bl, ol, rfl, r0, r1, r2, r3, r4, r5, r6, r7, r8⟩ := HL3.out.at hbw hjl
          unfold OC.body at hL
          have HLO := Lib.hid hL
          clear hL hf1 hf2 hf3
          generalize os[j].1.k = x0 at *
          generalize os[j].1.p = x1 at *
          generalize os[j].1.n = x2 at *
          generalize os[j].1.q0 = x3 at *
          generalize os[j].1.q1 = x4 at *
          generalize os[j].1.q2 = x5 at *
          generalize os[j].1.q3 = x6 at *
          generalize os[j].1.q4 = x7 at *
          generalize os[j].1.q4l = x7l at *
          generalize os[j].1.q4c = x7c at *
          generalize os[j].1.q5 = x8 at *
          generalize os[j].1.q5l = x8l at *
          generalize os[j].1.q5c = x8c at *
          generalize os[j].2 = t at *
          have hba := HW.out.alloc HW.out.size (.cells #[.string x0, .string x1, .string x2, .int .i64 x3, .bool x4, .int .i64 x5, .string x6, .slice x7 x7l x7c, .slice x8 x8l x8c] 31)
          have b9 := Box9.new wr #[.string x0, .string x1, .string x2, .int .i64 x3, .bool x4, .int .i64 x5, .string x6, .slice x7 x7l x7c, .slice x8 x8l x8c] 31
          have hsv : wr.heap.size < (wr.alloc (.cells #[.string x0, .string x1, .string x2, .int .i64 x3, .bool x4, .int .i64 x5, .string x6, .slice x7 x7l x7c, .slice x8 x8l x8c] 31)).heap.size := by simp
          go_upto_region 9 with fail
          clear r0 r1 r2 r3 r4 r5 r6 r7 r8
          generalize wr.alloc (.cells #[.string x0, .string x1, .string x2, .int .i64 x3, .bool x4, .int .i64 x5, .string x6, .slice x7 x7l x7c, .slice x8 x8l x8c] 31) = v9 at *
          have HA := Lib.hid hba
          have BO := Lib.hid b9
          obtain ⟨y0, y1, y2, y3, y4, y5, y6, y7, y8⟩ := b9.nine
          clear b9 hba
          go_upto_region 10 with (go_at_call 22; refine (FD.out _ HA.out).mono ?_; rintro e w10 ⟨f0, f1, f2, f3, f4, f4l, f4c, f5, f5l, f5c, rfl, hl10, hz10, hb10⟩; have HL10 := Lib.hid hl10; have HZ10 := Lib.hid hz10; have HB10 := Lib.hid hb10; clear hl10 hz10 hb10)
          have hb11 := HB10.out.alloc HB10.out.size (.cells #[.string x0, .string x1, .string x2, .int .i64 f0, .bool f1, .int .i64 f2, .string f3, .slice f4 f4l f4c, .slice f5 f5l f5c] 31)
          have b11 := Box9.new w10 #[.string x0, .string x1, .string x2, .int .i64 f0, .bool f1, .int .i64 f2, .string f3, .slice f4 f4l f4c, .slice f5 f5l f5c] 31
          have hstep := (Below.refl w10.heap.size w10).alloc (Nat.le_refl _) (.cells #[.string x0, .string x1, .string x2, .int .i64 f0, .bool f1, .int .i64 f2, .string f3, .slice f4 f4l f4c, .slice f5 f5l f5c] 31)
          have hs11 : w10.heap.size < (w10.alloc (.cells #[.string x0, .string x1, .string x2, .int .i64 f0, .bool f1, .int .i64 f2, .string f3, .slice f4 f4l f4c, .slice f5 f5l f5c] 31)).heap.size := by simp
          clear y0 y1 y2 y3 y4 y5 y6 y7 y8
          generalize w10.alloc (.cells #[.string x0, .string x1, .string x2, .int .i64 f0, .bool f1, .int .i64 f2, .string f3, .slice f4 f4l f4c, .slice f5 f5l f5c] 31) = v11 at *
          have L11 := Lib.hid (HL10.out.later hstep)
          have Z11 := Lib.hid (HZ10.out.later hstep)
          have BO11 := Lib.hid (BO.out.later hb11 hsv)
          have BX11 := Lib.hid b11
          have hz9 := HA.out.size
          have hz11 := hb11.size
          have hz10 := HB10.out.size
          have HW11 := Lib.hid (bstep HA.out hb11 HA.out.size)
          have LO11 := Lib.hid (HLO.out.later HW11.out)
          obtain ⟨y0, y1, y2, y3, y4, y5, y6, y7, y8⟩ := BO11.out.nine
          obtain ⟨z0, z1, z2, z3, z4, z5, z6, z7, z8⟩ := b11.nine
          have SM := Lib.hid (rSame_any L11.out LO11.out v11 (Below.refl _ _))
          rw [T.same_self] at SM
          clear b11 hb11 hstep
          go_upto_region 12 with (go_at_call 10; refine SM.out.mono ?_; rintro e w12 ⟨rfl, hb12⟩; have HB12 := Lib.hid hb12; clear hb12)
          have hz12 := HB12.out.size
          have BO12 := Lib.hid (BO11.out.later HB12.out (by omega))
          have BX12 := Lib.hid (BX11.out.later HB12.out hs11)
          have Z12 := Lib.hid (Z11.out.later HB12.out)
          have L12 := Lib.hid (L11.out.later HB12.out)
          have HW12 := Lib.hid (bstep HW11.out HB12.out HW11.out.size)
          clear y0 y1 y2 y3 y4 y5 y6 y7 y8 z0 z1 z2 z3 z4 z5 z6 z7 z8
          obtain ⟨z0, z1, z2, z3, z4, z5, z6, z7, z8⟩ := BX12.out.nine
          have MF := Lib.hid (fun hn => map_first L12.out hn)
          by_cases hm0 : f5l = 0
          · subst hm0
            clear MF
            go_wp2_with fail
            go_roundw
            case rel => exact ⟨j + 1, by omega, by go_num, HW12.out⟩
            case measure => simp [intOf]; omega
          · have hm1 : decide ((0 : Int) < (f5l : Int)) = true := decide_eq_true (by omega)
            obtain ⟨bm, om, kk, rfl, hbm, hcell, hfc⟩ := MF.out (by omega)
            obtain ⟨hbs, hfz⟩ := Z12.out (by omega) bm om rfl
            have hfz1 := hfz (om + 1)
            have hbm2 : v9.heap.size ≤ bm := hbm
            have hbm3 : wz.heap.size ≤ bm := by omega
            have hi1 : (0 : Int) < (f5l : Int) := by omega
            clear hfz MF
            go_upto_region 14 with fail
            have hb13 : Below wz.heap.size wz (w12.setCell ⟨bm, om + 1, none⟩ (.int .i64 99)) := HW12.out.setCell hbm3 _
            have bo13 : Box9 (w12.setCell ⟨bm, om + 1, none⟩ (.int .i64 99)) wr.heap.size #[.string x0, .string x1, .string x2, .int .i64 x3, .bool x4, .int .i64 x5, .string x6, .slice x7 x7l x7c, .slice x8 x8l x8c] := fun jj hjj => by
              rw [World.cell?_setCell_other _ _ _ _ (by intro e; have := congrArg Addr.block e; simp only at this; omega)]
              exact BO12.out jj hjj
            have hz13 : w12.heap.size ≤ (w12.setCell ⟨bm, om + 1, none⟩ (.int .i64 99)).heap.size := by rw [World.size_setCell]; exact Nat.le_refl _
            clear z0 z1 z2 z3 z4 z5 z6 z7 z8 hcell hfz1
            generalize w12.setCell ⟨bm, om + 1, none⟩ (.int .i64 99) = v13 at *
            have HW13 := Lib.hid hb13
            have BO13 := Lib.hid bo13
            obtain ⟨y0, y1, y2, y3, y4, y5, y6, y7, y8⟩ := bo13.nine
            clear hb13 bo13
            go_upto_region 15 with (go_at_call 22; refine (FD.out _ HW13.out).mono ?_; rintro e w14 ⟨g0, g1, g2, g3, g4, g4l, g4c, g5, g5l, g5c, rfl, hl14, hz14, hb14⟩; have HL14 := Lib.hid hl14; have HB14 := Lib.hid hb14; clear hl14 hz14 hb14)
            have hb15 := HB14.out.alloc HB14.out.size (.cells #[.string x0, .string x1, .string x2, .int .i64 g0, .bool g1, .int .i64 g2, .string g3, .slice g4 g4l g4c, .slice g5 g5l g5c] 31)
            have b15 := Box9.new w14 #[.string x0, .string x1, .string x2, .int .i64 g0, .bool g1, .int .i64 g2, .string g3, .slice g4 g4l g4c, .slice g5 g5l g5c] 31
            have hstep := (Below.refl w14.heap.size w14).alloc (Nat.le_refl _) (.cells #[.string x0, .string x1, .string x2, .int .i64 g0, .bool g1, .int .i64 g2, .string g3, .slice g4 g4l g4c, .slice g5 g5l g5c] 31)
            clear y0 y1 y2 y3 y4 y5 y6 y7 y8
            generalize w14.alloc (.cells #[.string x0, .string x1, .string x2, .int .i64 g0, .bool g1, .int .i64 g2, .string g3, .slice g4 g4l g4c, .slice g5 g5l g5c] 31) = v15 at *
            have L15 := Lib.hid (HL14.out.later hstep)
            have HW15 := Lib.hid (bstep HW13.out hb15 HW13.out.size)
            have LO15 := Lib.hid (HLO.out.later HW15.out)
            obtain ⟨y0, y1, y2, y3, y4, y5, y6, y7, y8⟩ := (BO13.out.later hb15 (by omega)).nine
            obtain ⟨z0, z1, z2, z3, z4, z5, z6, z7, z8⟩ := b15.nine
            have SM2 := Lib.hid (rSame_any L15.out LO15.out v15 (Below.refl _ _))
            rw [T.same_self] at SM2
            clear b15 hb15 hstep
            go_wp2_with (go_at_call 10; refine SM2.out.mono ?_; rintro e w16 ⟨rfl, hb16⟩; have HB16 := Lib.hid hb16; clear hb16)
            go_roundw
            case rel => exact ⟨j + 1, by omega, by go_num, bstep HW15.out HB16.out HW15.out.size⟩
            case measure => simp [intOf]; omega
        · obtain rfl : j = os.length := by omega
          have HW := Lib.hid hbw
          have HWR := Lib.hid (bstep HB3.out hbw HB3.out.size)
          have hln := HLEN.out
          have HZ := Lib.hid hln
          clear hbw hln
          have hss : ((ss.length : Int) == (os.length : Int)) = true := by rw [HZ.out]; simp
          by_cases hno : ∀ i (hi : i < ss.length), isO kNone ⟨#[]⟩ ⟨#[]⟩ ss[i].1 = false
          · have FM := Lib.hid ((oFind_any HSL.out kNone ⟨#[]⟩ ⟨#[]⟩ wr HW.out).1 hno)
            clear hno
            go_upto_region 19 with (go_at_call 22; refine FM.out.mono ?_; rintro e w10 ⟨f0, f1, f2, f3, f4, f4l, f4c, f5, f5l, f5c, rfl, hl10, hz10, hb10⟩; have HB10 := Lib.hid hb10; clear hl10 hz10 hb10)
            have hb11 := HB10.out.alloc HB10.out.size (.cells #[.string ⟨#[]⟩, .string ⟨#[]⟩, .string ⟨#[]⟩, .int .i64 f0, .bool f1, .int .i64 f2, .string f3, .slice f4 f4l f4c, .slice f5 f5l f5c] 31)
            generalize w10.alloc (.cells #[.string ⟨#[]⟩, .string ⟨#[]⟩, .string ⟨#[]⟩, .int .i64 f0, .bool f1, .int .i64 f2, .string f3, .slice f4 f4l f4c, .slice f5 f5l f5c] 31) = v11 at *
            have HW11 := Lib.hid (bstep HWR.out hb11 HWR.out.size)
            clear hb11
            go_wp2_with (go_at_call 7; refine (AW.out _ HW11.out).mono ?_; rintro e w12 ⟨rfl, hb12⟩; have HB12 := Lib.hid hb12; clear hb12)
            go_ret
            exact ⟨rfl, bstep HW11.out HB12.out HW11.out.size⟩
          · have hex : ∃ j, ∃ hj : j < ss.length, (∀ i (hi : i < ss.length), i < j → isO kNone ⟨#[]⟩ ⟨#[]⟩ ss[i].1 = false) ∧ isO kNone ⟨#[]⟩ ⟨#[]⟩ ss[j].1 = true := first_hit (fun x : Ob => isO kNone ⟨#[]⟩ ⟨#[]⟩ x.1) ss hno
            obtain ⟨jf, hjf, hf1, hf2⟩ := hex
            have FM := Lib.hid ((oFind_any HSL.out kNone ⟨#[]⟩ ⟨#[]⟩ wr HW.out).2 jf hjf hf1 hf2)
            have HPOS : Hid (0 < os.length) := by have := HZ.out; show _ < _; omega
            generalize ss[jf].2 = tt at FM
            clear hno hf1 hf2
            go_upto_region 19 with (go_at_call 22; refine FM.out.mono ?_; rintro e w10 ⟨f0, f1, f2, f3, f4, f4l, f4c, f5, f5l, f5c, rfl, hl10, hz10, hb10⟩; have HB10 := Lib.hid hb10; clear hl10 hz10 hb10)
            have hb11 := HB10.out.alloc HB10.out.size (.cells #[.string kNone, .string ⟨#[]⟩, .string ⟨#[]⟩, .int .i64 f0, .bool f1, .int .i64 f2, .string f3, .slice f4 f4l f4c, .slice f5 f5l f5c] 31)
            change Code.wp _ _ _ _ (w10.alloc (.cells #[.string kNone, .string ⟨#[]⟩, .string ⟨#[]⟩, .int .i64 f0, .bool f1, .int .i64 f2, .string f3, .slice f4 f4l f4c, .slice f5 f5l f5c] 31))
            generalize w10.alloc (.cells #[.string kNone, .string ⟨#[]⟩, .string ⟨#[]⟩, .int .i64 f0, .bool f1, .int .i64 f2, .string f3, .slice f4 f4l f4c, .slice f5 f5l f5c] 31) = v11 at *
            have HW11 := Lib.hid (bstep HWR.out hb11 HWR.out.size)
            clear hb11
            go_wp2_with (go_at_call 7; refine (AW.out _ HW11.out).mono ?_; rintro e w12 ⟨rfl, hb12⟩; have HB12 := Lib.hid hb12; clear hb12)
            go_ret
            refine ⟨?_, bstep HW11.out HB12.out HW11.out.size⟩
            show Ending.returned (.bool (decide (0 < os.length))) = _
            rw [decide_eq_true HPOS.out]

end Go.Proofs.YtbmlmcoepmbelaaDoor
