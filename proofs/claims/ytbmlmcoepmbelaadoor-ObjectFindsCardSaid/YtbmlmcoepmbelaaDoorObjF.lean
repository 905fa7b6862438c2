/-
  Package object's Find.
-/
import Derived.Test.YtbmlmcoepmbelaaDoorObjL
import Derived.Test.YtbmlmcoepmbelaaDoorTCheck
set_option linter.unusedVariables false
set_option linter.unusedSimpArgs false
namespace Go.Proofs.YtbmlmcoepmbelaaDoor
open Go.RowKit Go.Sort

set_option maxHeartbeats 400000 in
theorem indexO_any {w0 : World} {R : Nat → Prop} {os : List Ob} {a : Option Addr} {cap : Nat} (h : SliceO w0 R os a cap) (k p n : ByteArray) (kb : Nat)
    (w : World) (hw : Below w0.heap.size w0 w) (hk : w.cell? ⟨kb, 0, none⟩ = some (.string k)) (hp : w.cell? ⟨kb, 1, none⟩ = some (.string p)) (hn : w.cell? ⟨kb, 2, none⟩ = some (.string n)) :
    Calls Tryd.prog 43 #[.slice a os.length cap, .func (Fn.func 44) #[] #[.pointer (some ⟨kb, 0, none⟩)]] w fun e w' => e = .returned (.int .i64 (firstIx (fun o : Ob => isO k p n o.1) os)) ∧ Below w.heap.size w w' := by
  have hl := h.hdr
  have ll := hl.le
  have lx := hl.big
  have KN := Lib.hid (firstIx_none (fun o : Ob => isO k p n o.1) os)
  have KH := Lib.hid (firstIx_hit (fun o : Ob => isO k p n o.1) os)
  have H := Lib.hid h
  have hkb : kb < w.heap.size := World.block_lt_of_cell? _ _ hk
  have HK := Lib.hid hk
  have HP := Lib.hid hp
  have HN := Lib.hid hn
  clear hk hp hn h
  go_enter Tryd.func43, Tryd.ntmps43
  go_wp2_with fail
  go_loopw [5, 8] (fun _ vi wr => ∃ j : Nat, j ≤ os.length ∧ vi = .int .i64 j ∧ Hid (∀ i (hi : i < os.length), i < j → isO k p n os[i].1 = false) ∧ Below w.heap.size w wr) (fun _ vi _ => os.length - (intOf vi).toNat)
  case atStart => exact ⟨0, by omega, rfl, fun i _ hi => absurd hi (Nat.not_lt_zero _), Below.refl _ _⟩
  case round =>
    obtain ⟨j, hj, rfl, h0, hbw⟩ := hrel
    have hbw2 := bstep hw hbw hw.size
    by_cases hjl : j < os.length
    · have KJ := Lib.hid (KH.out j hjl h0.out)
      have CJ : Hid (∀ w', Below wr.heap.size wr w' → Calls Tryd.prog 44 #[.agg (encO os[j].1).toArray, .pointer (some ⟨kb, 0, none⟩)] w' fun e w2 => e = .returned (.bool (isO k p n os[j].1)) ∧ Below w'.heap.size w' w2) := fun w' hb => by
        have hb2 := bstep hbw hb hbw.size
        exact oFind1_any os[j].1 k p n kb w' (cells_frame hb2 HK.out) (cells_frame hb2 HP.out) (cells_frame hb2 HN.out) (Nat.lt_of_lt_of_le hkb hb2.size)
      obtain ⟨bl, ol, rfl, r0, r1, r2, r3, r4, r5, r6, r7, r8⟩ := H.out.at hbw2 hjl
      change Hid (∀ w', Below wr.heap.size wr w' → Calls Tryd.prog 44 #[.agg #[.string os[j].1.k, .string os[j].1.p, .string os[j].1.n, .int .i64 os[j].1.q0, .bool os[j].1.q1, .int .i64 os[j].1.q2, .string os[j].1.q3, .slice os[j].1.q4 os[j].1.q4l os[j].1.q4c, .slice os[j].1.q5 os[j].1.q5l os[j].1.q5c], .pointer (some ⟨kb, 0, none⟩)] w' fun e w2 => e = .returned (.bool (isO k p n os[j].1)) ∧ Below w'.heap.size w' w2) at CJ
      generalize os[j].1.k = x0 at *
      generalize os[j].1.p = x1 at *
      generalize os[j].1.n = x2 at *
      generalize os[j].1.q0 = x3 at *
      generalize os[j].1.q1 = x4 at *
      generalize os[j].1.q2 = x5 at *
      generalize os[j].1.q3 = x6 at *
      generalize os[j].1.q4 = x7 at *
      generalize os[j].1.q4l = x7l at *
      generalize os[j].1.q4c = x7c at *
      generalize os[j].1.q5 = x8 at *
      generalize os[j].1.q5l = x8l at *
      generalize os[j].1.q5c = x8c at *
      cases hd : isO k p n os[j].1 with
      | true =>
        have HR := Lib.hid (KJ.out hd)
        rw [hd] at CJ
        clear hd
        go_wp2_with (go_at_call 44; refine (CJ.out _ (Below.refl _ _)).mono ?_; rintro e w1 ⟨rfl, hb1⟩; have HB1 := Lib.hid (bstep hbw hb1 hbw.size); clear hb1)
        go_ret
        exact ⟨ret_int HR.out.symm, HB1.out⟩
      | false =>
        have HR := Lib.hid hd
        rw [hd] at CJ
        clear hd
        go_wp2_with (go_at_call 44; refine (CJ.out _ (Below.refl _ _)).mono ?_; rintro e w1 ⟨rfl, hb1⟩; have HB1 := Lib.hid (bstep hbw hb1 hbw.size); clear hb1)
        go_roundw
        case rel => exact ⟨j + 1, by omega, by go_num, fun i hi hij => by
          by_cases e : i = j
          · subst e; exact HR.out
          · exact h0.out i hi (by omega), HB1.out⟩
        case measure => simp [intOf]; omega
    · obtain rfl : j = os.length := by omega
      have HR := Lib.hid (KN.out fun i hi => h0.out i hi hi)
      go_wp2_with fail
      go_ret
      exact ⟨ret_int HR.out.symm, hbw⟩

/-- What Find hands back. -/
def FoundO (w : World) (ik ip im : ByteArray) (t : T) (b : Bool) (e : Ending) (w' : World) : Prop := ∃ (f0 : Int) (f1 : Bool) (f2 : Int) (f3 : ByteArray) (f4 : Option Addr) (f4l f4c : Nat) (f5 : Option Addr) (f5l f5c : Nat), e = .returned (.tuple #[.agg #[.string ik, .string ip, .string im, .int .i64 f0, .bool f1, .int .i64 f2, .string f3, .slice f4 f4l f4c, .slice f5 f5l f5c], .bool b]) ∧ Lies w' (fun b => w.heap.size ≤ b) t #[.int .i64 f0, .bool f1, .int .i64 f2, .string f3, .slice f4 f4l f4c, .slice f5 f5l f5c] ∧ FZ w' f5 f5l ∧ Below w.heap.size w w'

set_option maxRecDepth 100000 in
set_option maxHeartbeats 4000000 in
theorem oFind_any {w0 : World} {R : Nat → Prop} {os : List Ob} {a : Option Addr} {cap : Nat} (h : SliceO w0 R os a cap) (k p n : ByteArray) (w : World) (hw : Below w0.heap.size w0 w) :
    ((∀ i (hi : i < os.length), isO k p n os[i].1 = false) → Calls Tryd.prog 22 #[.slice a os.length cap, .agg #[.string k, .string p, .string n]] w (FoundO w ⟨#[]⟩ ⟨#[]⟩ ⟨#[]⟩ T.nil false)) ∧
    (∀ j (hj : j < os.length), (∀ i (hi : i < os.length), i < j → isO k p n os[i].1 = false) → isO k p n os[j].1 = true → Calls Tryd.prog 22 #[.slice a os.length cap, .agg #[.string k, .string p, .string n]] w (FoundO w k p n os[j].2 true)) := by
  obtain ⟨dd, hu, hdd⟩ := Tryd.structO
  have DD := Lib.hid hdd
  have HU := Lib.hid hu
  have H := Lib.hid h
  have HW := Lib.hid hw
  have hle := h.hdr.le
  have e1 : (w.alloc (.cells #[.string k, .string p, .string n] 29)).heap.size = w.heap.size + 1 := by simp
  have hb2 : Below w.heap.size w ((w.alloc (.cells #[.string k, .string p, .string n] 29)).alloc (.cells #[.string ⟨#[]⟩, .string ⟨#[]⟩, .string ⟨#[]⟩, .int .i64 0, .bool false, .int .i64 0, .string ⟨#[]⟩, .slice none 0 0, .slice none 0 0] 31)) := ((Below.refl _ _).alloc (Nat.le_refl _) _).alloc (by simp) _
  obtain ⟨a0, a1, a2⟩ := Box3.new w #[.string k, .string p, .string n] 29 _ _ _ rfl
  have hbb := (Below.refl (w.alloc (.cells #[.string k, .string p, .string n] 29)).heap.size _).alloc (Nat.le_refl _) (.cells #[.string ⟨#[]⟩, .string ⟨#[]⟩, .string ⟨#[]⟩, .int .i64 0, .bool false, .int .i64 0, .string ⟨#[]⟩, .slice none 0 0, .slice none 0 0] 31)
  have x0 := cells_frame hbb a0
  have x1 := cells_frame hbb a1
  have x2 := cells_frame hbb a2
  have b1 := Box9.new (w.alloc (.cells #[.string k, .string p, .string n] 29)) #[.string ⟨#[]⟩, .string ⟨#[]⟩, .string ⟨#[]⟩, .int .i64 0, .bool false, .int .i64 0, .string ⟨#[]⟩, .slice none 0 0, .slice none 0 0] 31
  have t1 := Thaw.new (w.alloc (.cells #[.string k, .string p, .string n] 29)) #[.string ⟨#[]⟩, .string ⟨#[]⟩, .string ⟨#[]⟩, .int .i64 0, .bool false, .int .i64 0, .string ⟨#[]⟩, .slice none 0 0, .slice none 0 0] 31
  rw [e1] at b1 t1
  have hz2 : w.heap.size + 2 ≤ ((w.alloc (.cells #[.string k, .string p, .string n] 29)).alloc (.cells #[.string ⟨#[]⟩, .string ⟨#[]⟩, .string ⟨#[]⟩, .int .i64 0, .bool false, .int .i64 0, .string ⟨#[]⟩, .slice none 0 0, .slice none 0 0] 31)).heap.size := by simp
  have HB2 := Lib.hid hb2
  have B1 := Lib.hid b1
  have T1 := Lib.hid t1
  have HZ := Lib.hid hz2
  have IX := Lib.hid (indexO_any h k p n w.heap.size _ (bstep hw hb2 hw.size) x0 x1 x2)
  have FN := Lib.hid (firstIx_none (fun o : Ob => isO k p n o.1) os)
  have FH := Lib.hid (firstIx_hit (fun o : Ob => isO k p n o.1) os)
  clear hdd hu h hw e1 hb2 a0 a1 a2 hbb x0 x1 x2 b1 t1 hz2
  refine ⟨fun hno => ?_, fun j hj h0 he => ?_⟩
  · have hix := FN.out hno
    rw [hix] at IX
    clear hix hno FN FH
    go_enter Tryd.func22, Tryd.ntmps22
    go_upto_region 1 with fail
    generalize (w.alloc (.cells #[.string k, .string p, .string n] 29)).alloc (.cells #[.string ⟨#[]⟩, .string ⟨#[]⟩, .string ⟨#[]⟩, .int .i64 0, .bool false, .int .i64 0, .string ⟨#[]⟩, .slice none 0 0, .slice none 0 0] 31) = v at *
    have hz := HZ.out
    go_upto_region 2 with (go_at_call 43; refine IX.out.mono ?_; rintro e w3 ⟨rfl, hb3⟩; have HB3 := Lib.hid hb3; clear hb3)
    have hz3 := HB3.out.size
    have B3 := Lib.hid (B1.out.later HB3.out (by omega))
    obtain ⟨z0, z1, z2, z3, z4, z5, z6, z7, z8⟩ := B3.out.nine
    obtain ⟨f0, f1, f2, f3, f4, f5, f6, f7, f8⟩ := (T1.out.later HB3.out (by omega)).nine
    go_wp2_with fail
    refine ret_cells_tmp w3 (w.heap.size + 1) [.string ⟨#[]⟩, .string ⟨#[]⟩, .string ⟨#[]⟩, .int .i64 0, .bool false, .int .i64 0, .string ⟨#[]⟩, .slice none 0 0, .slice none 0 0] rfl Tryd.results22 rfl rfl DD.out HU.out Tryd.sizeO (fun i hi => B3.out.cells rfl i hi) ?_
    have hbf := setRow_below (w.heap.size + 1) (by omega) [.string ⟨#[]⟩, .string ⟨#[]⟩, .string ⟨#[]⟩, .int .i64 0, .bool false, .int .i64 0, .string ⟨#[]⟩, .slice none 0 0, .slice none 0 0] w3 0 (bstep HB2.out HB3.out HB2.out.size)
    exact ⟨0, false, 0, ⟨#[]⟩, none, 0, 0, none, 0, 0, rfl, nil_lies _ _, fun h => absurd h (by simp), hbf⟩
  · have hix := FH.out j hj h0 he
    rw [hix] at IX
    have hid : os[j].1.k = k ∧ os[j].1.p = p ∧ os[j].1.n = n := of_decide_eq_true he
    have HID := Lib.hid hid
    clear hix h0 he FN FH hid
    go_enter Tryd.func22, Tryd.ntmps22
    go_upto_region 1 with fail
    generalize (w.alloc (.cells #[.string k, .string p, .string n] 29)).alloc (.cells #[.string ⟨#[]⟩, .string ⟨#[]⟩, .string ⟨#[]⟩, .int .i64 0, .bool false, .int .i64 0, .string ⟨#[]⟩, .slice none 0 0, .slice none 0 0] 31) = v at *
    have hz := HZ.out
    have hjn : decide ((j : Int) < 0) = false := decide_eq_false (by omega)
    go_upto_region 4 with (go_at_call 43; refine IX.out.mono ?_; rintro e w3 ⟨rfl, hb3⟩; have HB3 := Lib.hid hb3; clear hb3)
    have hz3 := HB3.out.size
    have B3 := Lib.hid (B1.out.later HB3.out (by omega))
    have T3 := Lib.hid (T1.out.later HB3.out (by omega))
    have H03 := Lib.hid (bstep HW.out (bstep HB2.out HB3.out HB2.out.size) HW.out.size)
    have hL := H.out.each j hj
    obtain ⟨bl, ol, rfl, r0, r1, r2, r3, r4, r5, r6, r7, r8⟩ := H.out.at H03.out hj
    rw [HID.out.1] at r0
    rw [HID.out.2.1] at r1
    rw [HID.out.2.2] at r2
    unfold OC.body at hL
    have CL := Lib.hid (fun w' hb => oclone_any hL k p n w' hb)
    clear hL
    generalize os[j].1.q0 = x3 at *
    generalize os[j].1.q1 = x4 at *
    generalize os[j].1.q2 = x5 at *
    generalize os[j].1.q3 = x6 at *
    generalize os[j].1.q4 = x7 at *
    generalize os[j].1.q4l = x7l at *
    generalize os[j].1.q4c = x7c at *
    generalize os[j].1.q5 = x8 at *
    generalize os[j].1.q5l = x8l at *
    generalize os[j].1.q5c = x8c at *
    go_wp2_with (go_at_call 42; refine (CL.out w3 H03.out).mono ?_; rintro e w4 ⟨f0, f1, f2, f3, f4, f4l, f4c, f5, f5l, f5c, rfl, hl4, hz4, hb4⟩; have HL4 := Lib.hid hl4; have HZ4 := Lib.hid hz4; have HB4 := Lib.hid hb4; obtain ⟨z0, z1, z2, z3, z4, z5, z6, z7, z8⟩ := (B3.out.later hb4 (by omega)).nine; obtain ⟨g0, g1, g2, g3, g4, g5, g6, g7, g8⟩ := (T3.out.later hb4 (by omega)).nine; clear hl4 hz4 hb4)
    have hz5 := HB4.out.size
    have B4 := Lib.hid (B3.out.later HB4.out (by omega))
    refine ret_cells_tmp w4 (w.heap.size + 1) [.string k, .string p, .string n, .int .i64 f0, .bool f1, .int .i64 f2, .string f3, .slice f4 f4l f4c, .slice f5 f5l f5c] rfl Tryd.results22 rfl rfl DD.out HU.out Tryd.sizeO (fun i hi => B4.out.cells rfl i hi) ?_
    have hbf := setRow_below (w.heap.size + 1) (by omega) [.string k, .string p, .string n, .int .i64 f0, .bool f1, .int .i64 f2, .string f3, .slice f4 f4l f4c, .slice f5 f5l f5c] w4 0 (bstep (bstep HB2.out HB3.out HB2.out.size) HB4.out (bstep HB2.out HB3.out HB2.out.size).size)
    exact ⟨f0, f1, f2, f3, f4, f4l, f4c, f5, f5l, f5c, rfl, (HL4.out.keep (fun b hb => setRow_heap _ _ _ _ _ (by omega))).weaken (fun b hb => by omega), HZ4.out.store _ _ _, hbf⟩

end Go.Proofs.YtbmlmcoepmbelaaDoor
