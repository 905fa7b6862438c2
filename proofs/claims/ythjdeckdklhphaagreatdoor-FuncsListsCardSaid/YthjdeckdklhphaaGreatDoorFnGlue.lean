/-
  Package funcs' glued: the texts of values, with another one between.
-/
import Derived.Test.YthjdeckdklhphaaGreatDoorBuildM
import Derived.Test.YthjdeckdklhphaaGreatDoorAwakeM
import Derived.Deep.DeepCutAuto
set_option linter.unusedVariables false
set_option linter.unusedSimpArgs false
namespace Go.Proofs.YthjdeckdklhphaaGreatDoor
open Go.RowKit

/-- The first j texts, with another one between. -/
def glueL (s : List UInt8) (tx : Nat → ByteArray) : Nat → List UInt8
  | 0 => []
  | j + 1 => glueL s tx j ++ ((if 0 < j then s else []) ++ (tx j).data.toList)
theorem glue_mono (s : List UInt8) (tx : Nat → ByteArray) {i j : Nat} (h : i ≤ j) : (glueL s tx i).length ≤ (glueL s tx j).length := by
  induction h with
  | refl => exact Nat.le_refl _
  | step h ih =>
    rw [glueL, List.length_append]
    omega
/-- A text in a builder of one's own. -/
def Built (w0 wr : World) (acc : List UInt8) : Prop := Lib.IsBuilder 70 5 w0.heap.size w0.heap.size (Lib.byteCells acc) wr ∧ Below w0.heap.size w0 wr
theorem builderAt_later {B b : Nat} {p : Value} {bs : List Value} {w w' : World} (h : Lib.BuilderAt 70 5 B b p bs w) (hb : Below w.heap.size w w') : Lib.BuilderAt 70 5 B b p bs w' := by
  obtain ⟨hB, v, hv, ho, hn⟩ := h
  refine ⟨hB, v, (hb.block _ (Array.getElem?_eq_some_iff.1 hv).1).trans hv, ⟨ho.1, ?_⟩, hn⟩
  rcases ho.2 with h1 | ⟨g, cap, cur, e, hbg, hg, hr⟩
  · exact .inl h1
  · exact .inr ⟨g, cap, cur, e, hbg, (hb.block _ (Array.getElem?_eq_some_iff.1 hg).1).trans hg, hr⟩
theorem Built.later {w0 wr w' : World} {acc : List UInt8} (h : Built w0 wr acc) (hb : Below wr.heap.size wr w') : Built w0 w' acc :=
  ⟨h.1.imp (fun k => builderAt_later k hb) (fun k => builderAt_later k hb), bstep h.2 hb h.2.size⟩
theorem Built.own {w0 wr : World} {acc : List UInt8} (h : Built w0 wr acc) : ∃ v0, wr.cell? ⟨w0.heap.size, 1, none⟩ = some v0 ∧ w0.heap.size < wr.heap.size ∧ ∀ k, wr.heap.size ≤ k → v0.ownBlock ≠ some k := by
  have key : ∀ {p : Value}, Lib.BuilderAt 70 5 w0.heap.size w0.heap.size p (Lib.byteCells acc) wr → ∃ v0, wr.cell? ⟨w0.heap.size, 1, none⟩ = some v0 ∧ w0.heap.size < wr.heap.size ∧ ∀ k, wr.heap.size ≤ k → v0.ownBlock ≠ some k := by
    rintro p ⟨hB, v, hv, ho, hn⟩
    refine ⟨v, by rw [Lib.cell_of_heap hv]; rfl, (Array.getElem?_eq_some_iff.1 hv).1, fun k hk he => ?_⟩
    rcases ho.2 with ⟨e, _⟩ | ⟨g, cap, cur, e, hbg, hg, _⟩
    · rw [e] at he; cases he
    · rw [e] at he
      obtain rfl : g = k := by injection he
      have := (Array.getElem?_eq_some_iff.1 hg).1
      omega
  rcases h.1 with h | h
  · exact key h
  · exact key h
/-- A text written behind; what was made since stays as it is. -/
theorem built_string {w0 wr w1 : World} {acc : List UInt8} (h : Built w0 wr acc) (hb : Below wr.heap.size wr w1) (s : ByteArray) (hn : acc.length + s.size ≤ 1000000000000) :
    Calls Tryz.prog 49 #[.pointer (some ⟨w0.heap.size, 0, none⟩), .string s] w1 fun e w' => e = .returned (.tuple #[.int .i64 s.size, .nilIface]) ∧ Built w0 w' (acc ++ s.data.toList) ∧ ∀ k, wr.heap.size ≤ k → k < w1.heap.size → w'.heap[k]? = w1.heap[k]? := by
  obtain ⟨v0, hv, hlt, hown⟩ := h.own
  have hl := h.later hb
  refine (writeString_keeps _ _ _ s w1 hl.1 v0 (cells_frame hb hv) (by rw [Lib.byteCells_length]; omega) hl.2.size).mono ?_
  rintro e w' ⟨rfl, k1, k2, k3⟩
  refine ⟨rfl, ⟨.inr ?_, hl.2.trans k2⟩, fun k hk hkl => k3 k hkl (by omega) (hown k hk)⟩
  rw [Lib.byteCells_append]
  exact k1
theorem built_len {w0 w1 : World} {acc : List UInt8} (h : Built w0 w1 acc) :
    Calls Tryz.prog 50 #[.pointer (some ⟨w0.heap.size, 0, none⟩)] w1 fun e w' => e = .returned (.int .i64 acc.length) ∧ w' = w1 := by
  refine (Tryz.Builder_Len _ _ _ w1 h.1).mono ?_
  rintro e w' ⟨rfl, k⟩
  rw [Lib.byteCells_length]
  exact ⟨rfl, k⟩
theorem built_out {w0 w1 : World} {acc : List UInt8} (h : Built w0 w1 acc) :
    Calls Tryz.prog 51 #[.pointer (some ⟨w0.heap.size, 0, none⟩)] w1 fun e w' => e = .returned (.string ⟨acc.toArray⟩) ∧ Below w0.heap.size w0 w' := by
  refine (Tryz.Builder_String_any _ _ acc w1 h.1 h.2.size).mono ?_
  rintro e w' ⟨rfl, k⟩
  exact ⟨rfl, h.2.trans k⟩
theorem Box6.same {w w' : World} {g : Nat} {cs : Array Value} (h : Box6 w g cs) (e : w'.heap[g]? = w.heap[g]?) : Box6 w' g cs := fun j hj => (World.cell?_of_block e).trans (h j hj)
/-- A text's cells. -/
abbrev cS (s : ByteArray) : Array Value := #[.int .i64 3, .bool false, .int .i64 0, .string s, .slice none 0 0, .slice none 0 0]

set_option maxRecDepth 100000 in
set_option maxHeartbeats 2000000 in
theorem fglued_any {w0 : World} {R : Nat → Prop} {ts : List T} {sa : Option Addr} {sc : Nat} {cl : Nat → Array Value} (hS : SliceV w0 R ts sa sc cl) (s : ByteArray) (tx : Nat → ByteArray) (hT : ∀ i (h : i < ts.length), SaidOK ts[i] (tx i)) (hlen : (glueL s.data.toList tx ts.length).length ≤ 65536) (hs : s.size ≤ 65536) (w : World) (hw : Below w0.heap.size w0 w) :
    Calls Tryz.prog 24 #[.slice sa ts.length sc, .string s] w fun e w' => e = .returned (.tuple #[.agg (cS ⟨(glueL s.data.toList tx ts.length).toArray⟩), .int .i64 0]) ∧ Below w.heap.size w w' := by
  have HS := Lib.hid hS
  have HT := Lib.hid hT
  have HLEN := Lib.hid hlen
  have hle := hS.hdr.le
  have hbig := hS.hdr.big
  obtain ⟨dd, hu, hdd⟩ := Tryz.structV
  have DD := Lib.hid hdd
  have HU := Lib.hid hu
  have hb1 := (Below.refl w.heap.size w).alloc (Nat.le_refl _) (.cells zeroV 28)
  have B1 := Lib.hid (Box6.new w zeroV 28)
  have T1 := Lib.hid (Thaw.new w zeroV 28)
  have es : (w.alloc (.cells zeroV 28)).heap.size = w.heap.size + 1 := by simp
  have ES := Lib.hid es
  have HB1 := Lib.hid hb1
  have HW := Lib.hid hw
  clear hdd hu hS hT hlen hb1 es
  go_enter Tryz.func24, Tryz.ntmps24
  go_upto_region 1 with fail
  generalize w.alloc (.cells zeroV 28) = v at *
  have hvr := Nat.le_of_eq ES.out.symm
  have hB0 : Hid (Built v (v.alloc (.cells #[.pointer none, .slice none 0 0] 70)) (glueL s.data.toList tx 0)) := ⟨Lib.fresh_isBuilder 70 5 v, (Below.refl _ _).alloc (Nat.le_refl _) _⟩
  have HWV := Lib.hid (bstep hw HB1.out hw.size)
  go_wp2_with fail
  go_loopw [11] (fun v11 wr => ∃ (j : Nat), j ≤ ts.length ∧ v11 = .int .i64 j ∧ Hid (Built v wr (glueL s.data.toList tx j))) (fun v11 _ => ts.length - (intOf v11).toNat)
  case atStart => exact ⟨0, by omega, rfl, hB0⟩
  case round =>
    obtain ⟨j, hj, rfl, HBT⟩ := hrel
    clear hB0
    by_cases hjl : j < ts.length
    · have hl : decide ((j : Int) < (ts.length : Int)) = true := decide_eq_true (by omega)
      have hwr := bstep HWV.out HBT.out.2 HWV.out.size
      obtain ⟨bl, ol, k0, b0, n0, s0, la, ll, lc, ma, ml, mc, hla, hc, r0, r1, r2, r3, r4, r5⟩ := openL hwr HS.out.hdr HS.out.rows hjl (HS.out.each j hjl)
      subst hla
      have hLj := HS.out.each j hjl
      rw [hc] at hLj
      have HTX := Lib.hid (fun w1 => HT.out j hjl hLj w1)
      have hmono := Nat.le_trans (glue_mono s.data.toList tx (show j + 1 ≤ ts.length by omega)) HLEN.out
      have hacc : (glueL s.data.toList tx j).length ≤ 65536 := Nat.le_trans (glue_mono s.data.toList tx (show j ≤ ts.length by omega)) HLEN.out
      have hgl : glueL s.data.toList tx (j + 1) = glueL s.data.toList tx j ++ ((if 0 < j then s.data.toList else []) ++ (tx j).data.toList) := rfl
      have htx : (tx j).size ≤ 65536 := by
        rw [hgl, List.length_append, List.length_append] at hmono
        have : (tx j).size = (tx j).data.toList.length := Lib.size_eq (tx j)
        omega
      have HGL := Lib.hid hgl
      have HMO := Lib.hid hmono
      have HAC := Lib.hid hacc
      clear hc hLj hmono hgl hwr
      go_upto_region 5 with fail
      have HBA := Lib.hid (HBT.out.later ((Below.refl wr.heap.size wr).alloc (Nat.le_refl _) (.cells #[.int .i64 k0, .bool b0, .int .i64 n0, .string s0, .slice la ll lc, .slice ma ml mc] 28)))
      have BX := Lib.hid (Box6.new wr #[.int .i64 k0, .bool b0, .int .i64 n0, .string s0, .slice la ll lc, .slice ma ml mc] 28)
      have hsa : wr.heap.size < (wr.alloc (.cells #[.int .i64 k0, .bool b0, .int .i64 n0, .string s0, .slice la ll lc, .slice ma ml mc] 28)).heap.size := by rw [World.size_alloc]; exact Nat.lt_succ_self _
      have hbe := (Below.refl wr.heap.size wr).alloc (Nat.le_refl _) (.cells #[.int .i64 k0, .bool b0, .int .i64 n0, .string s0, .slice la ll lc, .slice ma ml mc] 28)
      have hgb : v.heap.size ≤ wr.heap.size := HBT.out.2.size
      generalize hXY : wr.alloc (.cells #[.int .i64 k0, .bool b0, .int .i64 n0, .string s0, .slice la ll lc, .slice ma ml mc] 28) = wa at *
      clear hXY
      go_upto_if 17 with fail
      generalize hbj : decide (0 < j) = bj
      have HBJ := Lib.hid hbj
      clear hbj
      obtain ⟨sep, hsep⟩ : ∃ sep : List UInt8, sep = (if 0 < j then s.data.toList else []) := ⟨_, rfl⟩
      have HBE := Lib.hid hbe
      go_cut [18, 19] (fun q18 q19 wx => Hid (Built v wx (glueL s.data.toList tx j ++ sep)) ∧ Hid (Box6 wx wr.heap.size #[.int .i64 k0, .bool b0, .int .i64 n0, .string s0, .slice la ll lc, .slice ma ml mc]) ∧ wr.heap.size < wx.heap.size)
      case first =>
        cases bj with
        | true =>
          have hj0 : 0 < j := of_decide_eq_true HBJ.out
          have WS := Lib.hid (built_string HBT.out HBE.out s (by have := HAC.out; omega))
          rw [if_pos hj0] at hsep
          have HSEP := Lib.hid hsep
          clear hj0 hsep hbe
          go_wp2_with fail
          refine WS.out.mono ?_
          rintro e w1 ⟨rfl, hB1, hk1⟩
          have HB2 := Lib.hid hB1
          have HK2 := Lib.hid hk1
          clear hB1 hk1
          go_wp2_with fail
          go_meet
          case rel =>
            have hlt := HK2.out
            rw [HSEP.out]
            have hsz : wr.heap.size < w1.heap.size := by
              have h1 := HK2.out wr.heap.size (Nat.le_refl _) hsa
              have h2 : wr.heap.size < wa.heap.size := hsa
              rcases Nat.lt_or_ge wr.heap.size w1.heap.size with h | h
              · exact h
              · rw [Array.getElem?_eq_none h, Array.getElem?_eq_getElem h2] at h1
                cases h1
            exact ⟨HB2, BX.out.same (hlt _ (Nat.le_refl _) hsa), hsz⟩
        | false =>
          have hj0 : ¬ 0 < j := of_decide_eq_false HBJ.out
          rw [if_neg hj0] at hsep
          have HSEP := Lib.hid hsep
          clear hj0 hsep hbe
          go_wp2_with fail
          go_meet
          case rel =>
            rw [HSEP.out, List.append_nil]
            exact ⟨HBA, BX, hsa⟩
      case rest =>
        obtain ⟨HB3, BX3, hs3⟩ := hcut
        obtain ⟨u, rfl⟩ : ∃ u : World, u = wc := ⟨_, rfl⟩
        obtain ⟨c0, c1, c2, c3, c4, c5⟩ := BX3.out.six
        have hsl : sep.length ≤ 65536 := by
          rw [hsep]
          split
          · rw [← Lib.size_eq]; exact hs
          · simp
        have HSEP := Lib.hid hsep
        have WS : Hid (∀ w1, Below u.heap.size u w1 → Calls Tryz.prog 49 #[.pointer (some ⟨v.heap.size, 0, none⟩), .string (tx j)] w1 fun e w' => e = .returned (.tuple #[.int .i64 (tx j).size, .nilIface]) ∧ Built v w' (glueL s.data.toList tx (j + 1))) := fun w1 hw1 => by
          refine (built_string HB3.out hw1 (tx j) (by have := HAC.out; rw [List.length_append]; omega)).mono ?_
          rintro e w' ⟨he, hb, _⟩
          refine ⟨he, ?_⟩
          rw [HGL.out, ← HSEP.out, ← List.append_assoc]
          exact hb
        have hml := HMO.out
        have hle2 : decide (65536 < ((glueL s.data.toList tx (j + 1)).length : Int)) = false := decide_eq_false (by omega)
        clear hsep hsl hml hbe
        obtain ⟨g1, hg1⟩ : ∃ g1, g1 = glueL s.data.toList tx (j + 1) := ⟨_, rfl⟩
        rw [← hg1] at WS hle2
        have HG1 := Lib.hid hg1
        clear hg1
        go_wp2_with (first
          | (go_at_call 23; refine (HTX.out _).mono ?_; rintro e w1 ⟨rfl, hb⟩; have HB4 := Lib.hid hb; clear hb)
          | (go_at_call 49; refine (WS.out _ HB4.out).mono ?_; rintro e w2 ⟨rfl, hb⟩; have HB5 := Lib.hid hb; clear hb)
          | (go_at_call 50; refine (built_len HB5.out).mono ?_; rintro e w3 ⟨rfl, hw3⟩; have hw3b := hw3.symm; subst hw3b))
        have HFIN : Hid (Built v w2 (glueL s.data.toList tx (j + 1))) := by
          have h := HB5.out
          rw [HG1.out] at h
          exact h
        clear HTX WS HB4
        go_roundw
        case rel => exact ⟨j + 1, by omega, by go_num, HFIN⟩
        case measure => simp [intOf]; omega
    · obtain rfl : j = ts.length := by omega
      have hl : decide ((ts.length : Int) < (ts.length : Int)) = false := decide_eq_false (by omega)
      have hvw := HBT.out.2
      have HO := Lib.hid (built_out HBT.out)
      obtain ⟨c0, c1, c2, c3, c4, c5⟩ := (B1.out.later hvw (by omega)).six
      obtain ⟨g1, hg1⟩ : ∃ g1, g1 = glueL s.data.toList tx ts.length := ⟨_, rfl⟩
      rw [← hg1] at HO
      have HG1 : Hid (glueL s.data.toList tx ts.length = g1) := hg1.symm
      clear hvw hg1
      go_wp2_with (first
        | (go_at_call 51; refine HO.out.mono ?_; rintro e w1 ⟨rfl, hb⟩; have HB4 := Lib.hid hb; clear hb)
        | (go_at_call 10; refine (tStr_any _ _).mono ?_; rintro e w2 ⟨rfl, hb⟩
           have HB5 := Lib.hid (bstep HB4.out hb HB4.out.size)
           obtain ⟨c0, c1, c2, c3, c4, c5⟩ := (B1.out.later HB5.out (by omega)).six
           obtain ⟨f0, f1, f2, f3, f4, f5⟩ := (T1.out.later HB5.out (by omega)).six
           clear hb))
      exact ret_cells_tmp w2 w.heap.size (cS ⟨g1.toArray⟩).toList rfl Tryz.results24 rfl rfl DD.out HU.out Tryz.sizeV ((B1.out.later HB5.out (by omega)).cells rfl) ⟨by rw [HG1.out]; rfl, setRow_below _ (Nat.le_refl _) _ _ _ (bstep HB1.out HB5.out HB1.out.size)⟩

end Go.Proofs.YthjdeckdklhphaaGreatDoor
