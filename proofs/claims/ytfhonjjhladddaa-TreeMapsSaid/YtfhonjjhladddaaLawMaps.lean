/-
  TreeMaps: the law's contract.
-/
import Derived.Test.YtfhonjjhladddaaMapAny
import Derived.Test.YtfhonjjhladddaaRDropM
import Derived.Test.YtfhonjjhladddaaPutM
import Derived.Test.YtfhonjjhladddaaDrop
import Derived.Test.YtfhonjjhladddaaAllM
import Derived.Test.YtfhonjjhladddaaLawLastM
import Derived.Test.YtfhonjjhladddaaSpecsBM
import Derived.Test.YtfhonjjhladddaaGone
import Derived.Test.YtfhonjjhladddaaROverP

set_option linter.unusedVariables false
set_option linter.unusedSimpArgs false
namespace Go.Proofs.Ytfhonjjhladddaa
open Go.RowKit Go.Sort

/-- What a value that may be has. -/
structure Fine (t : T) : Prop where
  pairs : t.map = t.pairs
  asc : Asc t.pairs
  drop : ∀ key, rdropT key t = t.drop key
theorem fine_of {t : T} (h : t.parts = 0) : Fine t := by
  obtain ⟨k, b, n, s, l, m⟩ := t
  have hp := parts_zero h
  obtain ⟨-, -, hb, hn, hs, hl, hm⟩ := kind_parts hp.kind
  by_cases hk : k = 5
  · subst hk
    have e : (T.mk 5 b n s l m).pairs = m := by rw [T.pairs, if_pos rfl]
    have e2 : T.mk 5 b n s l m = .mk 5 false 0 ⟨#[]⟩ [] m := by rw [hb (by decide), hn (by decide), hs (by decide), hl (by decide)]
    refine ⟨by rw [e]; rfl, by rw [e]; exact asc_of_rise m hp.rise, fun key => ?_⟩
    rw [e2]
    show T.mk 5 false 0 ⟨#[]⟩ [] (dropR key m) = if (5 : Int) = 5 then _ else _
    rw [if_pos rfl]
    rfl
  · have e : (T.mk k b n s l m).pairs = [] := by rw [T.pairs, if_neg hk]
    have em := hm hk
    subst em
    refine ⟨by rw [e]; rfl, by rw [e]; exact List.Pairwise.nil, fun key => ?_⟩
    show T.mk k b n s l (dropR key []) = T.drop _ key
    unfold T.drop
    rw [if_neg (show ¬ (T.mk k b n s l []).kind = 5 from hk)]
    rfl
theorem good_size6 {t : T} (h : t.good = true) : t.size ≤ 6000 := T.light_size (by unfold T.good at h; simp at h; exact h.1)
theorem map_len {t : T} (h : t.size ≤ 6000) : t.map.length ≤ 6000 := by
  obtain ⟨k, b, n, s, l, m⟩ := t
  have h1 := len_le_sumL (fun p : ByteArray × T => p.2.size) m (fun q _ => size_posL q.2)
  rw [T.size_mk] at h
  show m.length ≤ _
  omega
theorem text_at {w0 w : World} {ks : List ByteArray} {a : Option Addr} {cap : Nat} (h : SliceS w0 ks a cap) (hw : Below w0.heap.size w0 w) {j : Nat} (hj : j < ks.length) : ∃ b off, a = some ⟨b, off, none⟩ ∧ w.cell? ⟨b, off + j, none⟩ = some (.string ks[j]) := by
  obtain ⟨b, off, rfl⟩ := h.ofSome (by omega)
  exact ⟨b, off, rfl, cells_frame hw (h.cell j hj b off rfl)⟩
/-- Keys with their numbers. -/
def numR (ks : List ByteArray) : Prs := ks.zipIdx.map fun x => (x.1, T.int x.2)
theorem numR_len (ks : List ByteArray) : (numR ks).length = ks.length := by unfold numR; rw [List.length_map, List.length_zipIdx]
theorem numR_at (ks : List ByteArray) (j : Nat) (h : j < (numR ks).length) (h2 : j < ks.length) : (numR ks)[j] = (ks[j], T.int j) := by
  have e : (numR ks)[j]? = some (ks[j], T.int j) := by
    unfold numR
    rw [List.getElem?_map, List.getElem?_zipIdx, List.getElem?_eq_getElem h2]
    simp
  rw [List.getElem?_eq_getElem h] at e
  exact Option.some.inj e

set_option maxRecDepth 100000 in
set_option maxHeartbeats 8000000 in
theorem treeMaps_any {w0 : World} {R1 R2 : Nat → Prop} {t u : T} {cs ds : Array Value} (h1 : Lies w0 R1 t cs) (h2 : Lies w0 R2 u ds) (key : ByteArray) (hkey : key.size ≤ 140737488355328) {ks : List ByteArray} {sa : Option Addr} {sc : Nat} (h3 : SliceS w0 ks sa sc) (w : World) (hw : Below w0.heap.size w0 w) :
    Calls Try.prog 3 #[.agg cs, .agg ds, .string key, .slice sa ks.length sc] w fun e w' => e = .returned (.bool true) ∧ Below w.heap.size w w' := by
  obtain ⟨a0, a1, a2, a3, a4, a4l, a4c, a5, a5l, a5c, rfl⟩ := h1.six
  obtain ⟨b0, b1, b2, b3, b4, b4l, b4c, b5, b5l, b5c, rfl⟩ := h2.six
  have lle := h3.le
  have lbig := h3.big
  have HKS := Lib.hid h3
  have bv2 := ((Below.refl w.heap.size w).alloc (Nat.le_refl _) (.cells #[.int .i64 a0, .bool a1, .int .i64 a2, .string a3, .slice a4 a4l a4c, .slice a5 a5l a5c] 25)).alloc (by simp) (.cells #[.int .i64 b0, .bool b1, .int .i64 b2, .string b3, .slice b4 b4l b4c, .slice b5 b5l b5c] 25)
  have HV := Lib.hid bv2
  have g2 := bstep hw bv2 hw.size
  have HW0 := Lib.hid g2
  have L1 := Lib.hid (h1.later g2)
  have L2 := Lib.hid (h2.later g2)
  have X2 := box_two w (.int .i64 a0) (.bool a1) (.int .i64 a2) (.string a3) (.slice a4 a4l a4c) (.slice a5 a5l a5c) (.int .i64 b0) (.bool b1) (.int .i64 b2) (.string b3) (.slice b4 b4l b4c) (.slice b5 b5l b5c) 25 25
  have BA := Lib.hid X2.1
  have BB := Lib.hid X2.2
  have HSZ : Hid (((w.alloc (.cells #[.int .i64 a0, .bool a1, .int .i64 a2, .string a3, .slice a4 a4l a4c, .slice a5 a5l a5c] 25)).alloc (.cells #[.int .i64 b0, .bool b1, .int .i64 b2, .string b3, .slice b4 b4l b4c, .slice b5 b5l b5c] 25)).heap.size = w.heap.size + 2) := by show _ = _; simp
  clear bv2 g2 X2 h1 h2 h3
  go_enter Try.func3, Try.ntmps3
  go_upto_region 1 with fail
  generalize ((w.alloc (.cells #[.int .i64 a0, .bool a1, .int .i64 a2, .string a3, .slice a4 a4l a4c, .slice a5 a5l a5c] 25)).alloc (.cells #[.int .i64 b0, .bool b1, .int .i64 b2, .string b3, .slice b4 b4l b4c, .slice b5 b5l b5c] 25)) = v at *
  have HAL := Lib.hid ((Below.refl v.heap.size v).alloc (Nat.le_refl _) (.cells #[.int .i64 a0, .bool a1, .int .i64 a2, .string a3, .slice a4 a4l a4c, .slice a5 a5l a5c, .int .i64 b0, .bool b1, .int .i64 b2, .string b3, .slice b4 b4l b4c, .slice b5 b5l b5c] 25))
  have HR := Lib.hid (right_any (two_values L1.out L2.out) _ (Below.refl _ _))
  obtain ⟨xa0, xa1, xa2, xa3, xa4, xa5⟩ := BA.out
  obtain ⟨xb0, xb1, xb2, xb3, xb4, xb5⟩ := BB.out
  go_wp2_with fail
  refine HR.out.mono ?_
  rintro e w5 ⟨rfl, hb5⟩
  have HB5 := Lib.hid (bstep HAL.out hb5 HAL.out.size)
  clear hb5 HAL HR xa0 xa1 xa2 xa3 xa4 xa5 xb0 xb1 xb2 xb3 xb4 xb5
  cases hg : [t, u].all T.good with
  | false =>
    go_wp2_with fail
    refine (awake_any _).mono ?_
    rintro e w99 ⟨rfl, hb99⟩
    go_wp2_with fail
    go_ret
    exact ⟨rfl, bstep HV.out (bstep HB5.out hb99 HB5.out.size) HV.out.size⟩

  | true =>
    go_wp2_with fail
    refine (rKey_any key hkey _).mono ?_
    rintro e w51 ⟨rfl, hw51⟩
    subst hw51
    cases hkb : keyB key with
    | false =>
      go_wp2_with fail
      refine (awake_any _).mono ?_
      rintro e w99 ⟨rfl, hb99⟩
      go_wp2_with fail
      go_ret
      exact ⟨rfl, bstep HV.out (bstep HB5.out hb99 HB5.out.size) HV.out.size⟩

    | true =>
      by_cases hl50 : ks.length ≤ 50
      case neg =>
        have f3 : ((ks.length : Int) > 50) := by omega
        have f4 : 50 < ks.length := by omega
        go_wp2_with fail
        refine (awake_any _).mono ?_
        rintro e w99 ⟨rfl, hb99⟩
        go_wp2_with fail
        go_ret
        exact ⟨rfl, bstep HV.out (bstep HB5.out hb99 HB5.out.size) HV.out.size⟩

      have f3 : ¬ ((ks.length : Int) > 50) := by omega
      have f4 : ¬ 50 < ks.length := by omega
      have hgg : t.good = true ∧ u.good = true := by simpa using hg
      have hz1 := good_size6 hgg.1
      have hz2 := good_size6 hgg.2
      have F1 := fine_of (good_parts hgg.1)
      have hml := map_len hz1
      obtain ⟨r, hr⟩ : ∃ r, r = findR key t.pairs := ⟨_, rfl⟩
      have CG : Hid (∀ wb, Below v.heap.size v wb → Calls Try.prog 8 #[.agg #[.int .i64 a0, .bool a1, .int .i64 a2, .string a3, .slice a4 a4l a4c, .slice a5 a5l a5c], .string key] wb (Got wb r)) := fun wb hb => by
        have h := tGet_any L1.out key wb hb
        rw [T.get_find, ← hr] at h
        exact h
      have CH : Hid (∀ wb, Below v.heap.size v wb → Calls Try.prog 9 #[.agg #[.int .i64 a0, .bool a1, .int .i64 a2, .string a3, .slice a4 a4l a4c, .slice a5 a5l a5c], .string key] wb (RGot v R1 wb r)) := fun wb hb => by
        have h := rGet_any L1.out key wb hb
        rw [F1.pairs, ← hr] at h
        exact h
      have CPT : Hid (∀ wb, Below v.heap.size v wb → Calls Try.prog 11 #[.agg #[.int .i64 a0, .bool a1, .int .i64 a2, .string a3, .slice a4 a4l a4c, .slice a5 a5l a5c], .string key, .agg #[.int .i64 b0, .bool b1, .int .i64 b2, .string b3, .slice b4 b4l b4c, .slice b5 b5l b5c]] wb fun e w' => ∃ (f0 : Int) (f1 : Bool) (f2 : Int) (f3 : ByteArray) (f4 : Option Addr) (f4l f4c : Nat) (f5 : Option Addr) (f5l f5c : Nat), e = .returned (.agg #[.int .i64 f0, .bool f1, .int .i64 f2, .string f3, .slice f4 f4l f4c, .slice f5 f5l f5c]) ∧ Lies w' (fun _ => True) (mk5 (putR key u t.pairs)) #[.int .i64 f0, .bool f1, .int .i64 f2, .string f3, .slice f4 f4l f4c, .slice f5 f5l f5c] ∧ Below wb.heap.size wb w') := fun wb hb => by
        refine (tPut_any L1.out L2.out key hkey (by rw [← F1.pairs]; omega) wb hb).mono ?_
        rintro e w' ⟨ds, rfl, hL, hb2⟩
        obtain ⟨f0, f1, f2, f3, f4, f4l, f4c, f5, f5l, f5c, rfl⟩ := hL.six
        exact ⟨f0, f1, f2, f3, f4, f4l, f4c, f5, f5l, f5c, rfl, hL.weaken fun _ _ => trivial, hb2⟩

      have CRP : Hid (∀ wb, Below v.heap.size v wb → Calls Try.prog 12 #[.agg #[.int .i64 a0, .bool a1, .int .i64 a2, .string a3, .slice a4 a4l a4c, .slice a5 a5l a5c], .string key, .agg #[.int .i64 b0, .bool b1, .int .i64 b2, .string b3, .slice b4 b4l b4c, .slice b5 b5l b5c]] wb fun e w' => ∃ (f0 : Int) (f1 : Bool) (f2 : Int) (f3 : ByteArray) (f4 : Option Addr) (f4l f4c : Nat) (f5 : Option Addr) (f5l f5c : Nat), e = .returned (.agg #[.int .i64 f0, .bool f1, .int .i64 f2, .string f3, .slice f4 f4l f4c, .slice f5 f5l f5c]) ∧ Lies w' (fun _ => True) (mk5 (putR key u t.pairs)) #[.int .i64 f0, .bool f1, .int .i64 f2, .string f3, .slice f4 f4l f4c, .slice f5 f5l f5c] ∧ Below wb.heap.size wb w') := fun wb hb => by
        refine ((by have h := rPut_any L1.out L2.out key hkey (by omega) wb hb; rw [F1.pairs, rputG_put _ _ F1.asc] at h; exact h : Calls Try.prog 12 #[.agg #[.int .i64 a0, .bool a1, .int .i64 a2, .string a3, .slice a4 a4l a4c, .slice a5 a5l a5c], .string key, .agg #[.int .i64 b0, .bool b1, .int .i64 b2, .string b3, .slice b4 b4l b4c, .slice b5 b5l b5c]] wb (RPutIn v (fun b => R1 b ∨ R2 b) wb (mk5 (putR key u t.pairs))))).mono ?_
        rintro e w' ⟨ds, rfl, hL, hb2⟩
        obtain ⟨f0, f1, f2, f3, f4, f4l, f4c, f5, f5l, f5c, rfl⟩ := hL.six
        exact ⟨f0, f1, f2, f3, f4, f4l, f4c, f5, f5l, f5c, rfl, hL.weaken fun _ _ => trivial, hb2⟩

      have CDR : Hid (∀ wb, Below v.heap.size v wb → Calls Try.prog 13 #[.agg #[.int .i64 a0, .bool a1, .int .i64 a2, .string a3, .slice a4 a4l a4c, .slice a5 a5l a5c], .string key] wb fun e w' => ∃ (f0 : Int) (f1 : Bool) (f2 : Int) (f3 : ByteArray) (f4 : Option Addr) (f4l f4c : Nat) (f5 : Option Addr) (f5l f5c : Nat), e = .returned (.agg #[.int .i64 f0, .bool f1, .int .i64 f2, .string f3, .slice f4 f4l f4c, .slice f5 f5l f5c]) ∧ Lies w' (fun _ => True) (t.drop key) #[.int .i64 f0, .bool f1, .int .i64 f2, .string f3, .slice f4 f4l f4c, .slice f5 f5l f5c] ∧ Below wb.heap.size wb w') := fun wb hb => by
        refine (tDrop_any L1.out key wb hb).mono ?_
        rintro e w' ⟨ds, rfl, hL, hb2⟩
        obtain ⟨f0, f1, f2, f3, f4, f4l, f4c, f5, f5l, f5c, rfl⟩ := hL.six
        exact ⟨f0, f1, f2, f3, f4, f4l, f4c, f5, f5l, f5c, rfl, hL.weaken fun _ _ => trivial, hb2⟩

      have CRD : Hid (∀ wb, Below v.heap.size v wb → Calls Try.prog 14 #[.agg #[.int .i64 a0, .bool a1, .int .i64 a2, .string a3, .slice a4 a4l a4c, .slice a5 a5l a5c], .string key] wb fun e w' => ∃ (f0 : Int) (f1 : Bool) (f2 : Int) (f3 : ByteArray) (f4 : Option Addr) (f4l f4c : Nat) (f5 : Option Addr) (f5l f5c : Nat), e = .returned (.agg #[.int .i64 f0, .bool f1, .int .i64 f2, .string f3, .slice f4 f4l f4c, .slice f5 f5l f5c]) ∧ Lies w' (fun _ => True) (t.drop key) #[.int .i64 f0, .bool f1, .int .i64 f2, .string f3, .slice f4 f4l f4c, .slice f5 f5l f5c] ∧ Below wb.heap.size wb w') := fun wb hb => by
        refine ((by have h := rDrop_any L1.out key (by omega) wb hb; rw [F1.drop] at h; exact h : Calls Try.prog 14 #[.agg #[.int .i64 a0, .bool a1, .int .i64 a2, .string a3, .slice a4 a4l a4c, .slice a5 a5l a5c], .string key] wb (RPutIn v R1 wb (t.drop key)))).mono ?_
        rintro e w' ⟨ds, rfl, hL, hb2⟩
        obtain ⟨f0, f1, f2, f3, f4, f4l, f4c, f5, f5l, f5c, rfl⟩ := hL.six
        exact ⟨f0, f1, f2, f3, f4, f4l, f4c, f5, f5l, f5c, rfl, hL.weaken fun _ _ => trivial, hb2⟩

      have AW : Hid (∀ wb, Below v.heap.size v wb → Calls Try.prog 7 #[] wb fun e w' => e = .returned (.bool true) ∧ Below wb.heap.size wb w') := fun wb _ => awake_any wb
      have CLS : Hid (∀ wb sb cl, Below v.heap.size v wb → SliceV wb (fun _ => True) [t, u] (some ⟨sb, 0, none⟩) 2 cl → Calls Try.prog 16 #[.slice (some ⟨sb, 0, none⟩) 2 2] wb (MadeL wb [t, u])) := fun wb sb cl hb hS => tList_any hS wb (Below.refl _ _)
      have BA5 := Lib.hid (BA.out.later HB5.out)
      have BB5 := Lib.hid (BB.out.later HB5.out)
      clear hg hgg hz1 hz2 F1 hml hr hkb
      obtain ⟨xa0, xa1, xa2, xa3, xa4, xa5⟩ := BA5.out
      go_wp2_with fail
      refine (CG.out _ HB5.out).mono ?_
      rintro e w6 ⟨gs, rfl, hLG, hb6⟩
      obtain ⟨c0, c1, c2, c3, c4, c4l, c4c, c5, c5l, c5c, rfl⟩ := hLG.six
      obtain ⟨bb, hbb⟩ : ∃ bb, bb = r.isSome := ⟨_, rfl⟩
      rw [← hbb]
      have HB6 := Lib.hid (bstep HB5.out hb6 HB5.out.size)
      have bc := (Below.refl w6.heap.size w6).alloc (Nat.le_refl _) (.cells #[.int .i64 c0, .bool c1, .int .i64 c2, .string c3, .slice c4 c4l c4c, .slice c5 c5l c5c] 25)
      have HBC := Lib.hid (bstep HB6.out bc HB6.out.size)
      have BC0 := Lib.hid (BoxA.new w6 (.int .i64 c0) (.bool c1) (.int .i64 c2) (.string c3) (.slice c4 c4l c4c) (.slice c5 c5l c5c) 25)
      have LC0 := Lib.hid (hLG.later bc)
      obtain ⟨xa0, xa1, xa2, xa3, xa4, xa5⟩ := BA.out.later HBC.out
      clear hLG hb6 bc
      go_wp2_with fail
      refine (CH.out _ HBC.out).mono ?_
      rintro e w7 ⟨hs, rfl, hLH, hb7⟩
      obtain ⟨d0, d1, d2, d3, d4, d4l, d4c, d5, d5l, d5c, rfl⟩ := hLH.six
      rw [← hbb]
      have HB7 := Lib.hid (bstep HBC.out hb7 HBC.out.size)
      have bd := (Below.refl w7.heap.size w7).alloc (Nat.le_refl _) (.cells #[.int .i64 d0, .bool d1, .int .i64 d2, .string d3, .slice d4 d4l d4c, .slice d5 d5l d5c] 25)
      have HBZ := Lib.hid (bstep HB7.out bd HB7.out.size)
      have BCZ := Lib.hid ((BC0.out.later hb7).later bd)
      have LCZ := Lib.hid ((LC0.out.later hb7).later bd)
      have BDZ := Lib.hid (BoxA.new w7 (.int .i64 d0) (.bool d1) (.int .i64 d2) (.string d3) (.slice d4 d4l d4c) (.slice d5 d5l d5c) 25)
      have LDZ := Lib.hid (hLH.later bd)
      have BAZ := Lib.hid (BA.out.later HBZ.out)
      have BBZ := Lib.hid (BB.out.later HBZ.out)
      clear hLH hb7 bd BC0 LC0 xa0 xa1 xa2 xa3 xa4 xa5 HBC HB6 CG CH hbb
      go_upto_region 5 with fail
      generalize (w7.alloc (.cells #[.int .i64 d0, .bool d1, .int .i64 d2, .string d3, .slice d4 d4l d4c, .slice d5 d5l d5c] 25)) = wz at *
      refine wp_region_specs3 wz 31 (fun i => match i with | 0 => 46 | 1 => 47 | 2 => 48 | 3 => 49 | 4 => 50 | 5 => 51 | 6 => 52 | 7 => 53 | 8 => 54 | 9 => 55 | 10 => 56 | 11 => 57 | 12 => 58 | 13 => 59 | 14 => 60 | 15 => 61 | 16 => 62 | 17 => 63 | 18 => 64 | 19 => 65 | 20 => 66 | 21 => 67 | 22 => 68 | 23 => 69 | 24 => 70 | 25 => 71 | 26 => 72 | 27 => 73 | 28 => 74 | 29 => 75 | 30 => 76 | _ => 0) (fun i x wx => match i with | 0 => x = .bool bb | 1 => x = .bool bb | 2 => x = .bool false | 3 => x = .bool false | 4 => x = .agg #[.int .i64 c0, .bool c1, .int .i64 c2, .string c3, .slice c4 c4l c4c, .slice c5 c5l c5c] | 5 => x = .agg #[.int .i64 d0, .bool d1, .int .i64 d2, .string d3, .slice d4 d4l d4c, .slice d5 d5l d5c] | 6 => x = .bool true | 7 => x = .bool false | 8 => x = .bool false | 9 => x = .bool false | 10 => x = .agg #[.int .i64 a0, .bool a1, .int .i64 a2, .string a3, .slice a4 a4l a4c, .slice a5 a5l a5c] | 11 => x = .string key | 12 => x = .agg #[.int .i64 b0, .bool b1, .int .i64 b2, .string b3, .slice b4 b4l b4c, .slice b5 b5l b5c] | 13 => ∃ (f0 : Int) (f1 : Bool) (f2 : Int) (f3 : ByteArray) (f4 : Option Addr) (f4l f4c : Nat) (f5 : Option Addr) (f5l f5c : Nat), x = .agg #[.int .i64 f0, .bool f1, .int .i64 f2, .string f3, .slice f4 f4l f4c, .slice f5 f5l f5c] ∧ Lies wx (fun _ => True) (mk5 (putR key u t.pairs)) #[.int .i64 f0, .bool f1, .int .i64 f2, .string f3, .slice f4 f4l f4c, .slice f5 f5l f5c] | 14 => x = .agg #[.int .i64 a0, .bool a1, .int .i64 a2, .string a3, .slice a4 a4l a4c, .slice a5 a5l a5c] | 15 => x = .string key | 16 => x = .agg #[.int .i64 b0, .bool b1, .int .i64 b2, .string b3, .slice b4 b4l b4c, .slice b5 b5l b5c] | 17 => ∃ (f0 : Int) (f1 : Bool) (f2 : Int) (f3 : ByteArray) (f4 : Option Addr) (f4l f4c : Nat) (f5 : Option Addr) (f5l f5c : Nat), x = .agg #[.int .i64 f0, .bool f1, .int .i64 f2, .string f3, .slice f4 f4l f4c, .slice f5 f5l f5c] ∧ Lies wx (fun _ => True) (mk5 (putR key u t.pairs)) #[.int .i64 f0, .bool f1, .int .i64 f2, .string f3, .slice f4 f4l f4c, .slice f5 f5l f5c] | 18 => x = .bool true | 19 => x = .bool false | 20 => x = .bool false | 21 => x = .bool false | 22 => x = .agg #[.int .i64 a0, .bool a1, .int .i64 a2, .string a3, .slice a4 a4l a4c, .slice a5 a5l a5c] | 23 => x = .string key | 24 => ∃ (f0 : Int) (f1 : Bool) (f2 : Int) (f3 : ByteArray) (f4 : Option Addr) (f4l f4c : Nat) (f5 : Option Addr) (f5l f5c : Nat), x = .agg #[.int .i64 f0, .bool f1, .int .i64 f2, .string f3, .slice f4 f4l f4c, .slice f5 f5l f5c] ∧ Lies wx (fun _ => True) (t.drop key) #[.int .i64 f0, .bool f1, .int .i64 f2, .string f3, .slice f4 f4l f4c, .slice f5 f5l f5c] | 25 => x = .agg #[.int .i64 a0, .bool a1, .int .i64 a2, .string a3, .slice a4 a4l a4c, .slice a5 a5l a5c] | 26 => x = .string key | 27 => ∃ (f0 : Int) (f1 : Bool) (f2 : Int) (f3 : ByteArray) (f4 : Option Addr) (f4l f4c : Nat) (f5 : Option Addr) (f5l f5c : Nat), x = .agg #[.int .i64 f0, .bool f1, .int .i64 f2, .string f3, .slice f4 f4l f4c, .slice f5 f5l f5c] ∧ Lies wx (fun _ => True) (t.drop key) #[.int .i64 f0, .bool f1, .int .i64 f2, .string f3, .slice f4 f4l f4c, .slice f5 f5l f5c] | 28 => x = .bool true | 29 => x = .bool false | 30 => x = .bool false | _ => True) (by kernel_rfl) (by kernel_rfl) ?s1 (Below.refl _ _) ?s2 ?s3 ?s4 ?s5
      case s1 => intro i hi; rcases (by omega : i = 0 ∨ i = 1 ∨ i = 2 ∨ i = 3 ∨ i = 4 ∨ i = 5 ∨ i = 6 ∨ i = 7 ∨ i = 8 ∨ i = 9 ∨ i = 10 ∨ i = 11 ∨ i = 12 ∨ i = 13 ∨ i = 14 ∨ i = 15 ∨ i = 16 ∨ i = 17 ∨ i = 18 ∨ i = 19 ∨ i = 20 ∨ i = 21 ∨ i = 22 ∨ i = 23 ∨ i = 24 ∨ i = 25 ∨ i = 26 ∨ i = 27 ∨ i = 28 ∨ i = 29 ∨ i = 30) with rfl | rfl | rfl | rfl | rfl | rfl | rfl | rfl | rfl | rfl | rfl | rfl | rfl | rfl | rfl | rfl | rfl | rfl | rfl | rfl | rfl | rfl | rfl | rfl | rfl | rfl | rfl | rfl | rfl | rfl | rfl <;> exact Nat.lt_of_lt_of_le (by decide : _ < 121) (Nat.le_refl 121)
      case s2 =>
        intro i x w1 w2 hb hU
        match i, hU with
        | 13, ⟨f0, f1, f2, f3, f4, f4l, f4c, f5, f5l, f5c, e, hl⟩ => exact ⟨f0, f1, f2, f3, f4, f4l, f4c, f5, f5l, f5c, e, hl.later hb⟩
        | 17, ⟨f0, f1, f2, f3, f4, f4l, f4c, f5, f5l, f5c, e, hl⟩ => exact ⟨f0, f1, f2, f3, f4, f4l, f4c, f5, f5l, f5c, e, hl.later hb⟩
        | 24, ⟨f0, f1, f2, f3, f4, f4l, f4c, f5, f5l, f5c, e, hl⟩ => exact ⟨f0, f1, f2, f3, f4, f4l, f4c, f5, f5l, f5c, e, hl.later hb⟩
        | 27, ⟨f0, f1, f2, f3, f4, f4l, f4c, f5, f5l, f5c, e, hl⟩ => exact ⟨f0, f1, f2, f3, f4, f4l, f4c, f5, f5l, f5c, e, hl.later hb⟩
        | 0, h | 1, h | 2, h | 3, h | 4, h | 5, h | 6, h | 7, h | 8, h | 9, h | 10, h | 11, h | 12, h | 14, h | 15, h | 16, h | 18, h | 19, h | 20, h | 21, h | 22, h | 23, h | 25, h | 26, h | 28, h | 29, h | 30, h => exact h
        | (n + 31), _ => trivial
      case s3 =>
        intro i o g b ho hg x w hu
        have hi : i < 31 := (Array.getElem?_eq_some_iff.1 ho).1
        rcases (by omega : i = 0 ∨ i = 1 ∨ i = 2 ∨ i = 3 ∨ i = 4 ∨ i = 5 ∨ i = 6 ∨ i = 7 ∨ i = 8 ∨ i = 9 ∨ i = 10 ∨ i = 11 ∨ i = 12 ∨ i = 13 ∨ i = 14 ∨ i = 15 ∨ i = 16 ∨ i = 17 ∨ i = 18 ∨ i = 19 ∨ i = 20 ∨ i = 21 ∨ i = 22 ∨ i = 23 ∨ i = 24 ∨ i = 25 ∨ i = 26 ∨ i = 27 ∨ i = 28 ∨ i = 29 ∨ i = 30) with rfl | rfl | rfl | rfl | rfl | rfl | rfl | rfl | rfl | rfl | rfl | rfl | rfl | rfl | rfl | rfl | rfl | rfl | rfl | rfl | rfl | rfl | rfl | rfl | rfl | rfl | rfl | rfl | rfl | rfl | rfl
        · simp at ho; subst ho; cases hg
        · simp at ho; subst ho; cases hg
        · simp at ho; subst ho; cases hg
        · simp at ho; subst ho; cases hg
        · simp at ho; subst ho; cases hg; exact hu
        · simp at ho; subst ho; cases hg; exact hu
        · simp at ho; subst ho; cases hg; exact hu
        · simp at ho; subst ho; cases hg; exact hu
        · simp at ho; subst ho; cases hg
        · simp at ho; subst ho; cases hg
        · simp at ho; subst ho; cases hg; exact hu
        · simp at ho; subst ho; cases hg; exact hu
        · simp at ho; subst ho; cases hg; exact hu
        · simp at ho; subst ho; cases hg; exact hu
        · simp at ho; subst ho; cases hg; exact hu
        · simp at ho; subst ho; cases hg; exact hu
        · simp at ho; subst ho; cases hg; exact hu
        · simp at ho; subst ho; cases hg; exact hu
        · simp at ho; subst ho; cases hg; exact hu
        · simp at ho; subst ho; cases hg; exact hu
        · simp at ho; subst ho; cases hg
        · simp at ho; subst ho; cases hg
        · simp at ho; subst ho; cases hg; exact hu
        · simp at ho; subst ho; cases hg; exact hu
        · simp at ho; subst ho; cases hg; exact hu
        · simp at ho; subst ho; cases hg; exact hu
        · simp at ho; subst ho; cases hg; exact hu
        · simp at ho; subst ho; cases hg; exact hu
        · simp at ho; subst ho; cases hg; exact hu
        · simp at ho; subst ho; cases hg; exact hu
        · simp at ho; subst ho; cases hg
      case s4 =>
        intro i o ac wb K' ho hi hA hB hdep hK
        have sv4 : ac.tmps[4]?.getD undef = .pointer (some ⟨w.heap.size, 0, none⟩) := hA.sl (t := 4) (by decide)
        have sv5 : ac.tmps[5]?.getD undef = .pointer (some ⟨w.heap.size + 1, 0, none⟩) := hA.sl (t := 5) (by decide)
        have sv2 : ac.tmps[2]?.getD undef = .string key := hA.sl (t := 2) (by decide)
        have sv9 : ac.tmps[9]?.getD undef = .pointer (some ⟨w6.heap.size, 0, none⟩) := hA.sl (t := 9) (by decide)
        have sv10 : ac.tmps[10]?.getD undef = .bool bb := hA.sl (t := 10) (by decide)
        have sv11 : ac.tmps[11]?.getD undef = .pointer (some ⟨w7.heap.size, 0, none⟩) := hA.sl (t := 11) (by decide)
        have sv12 : ac.tmps[12]?.getD undef = .bool bb := hA.sl (t := 12) (by decide)
        obtain ⟨xa0, xa1, xa2, xa3, xa4, xa5⟩ := BAZ.out.later hB
        obtain ⟨xb0, xb1, xb2, xb3, xb4, xb5⟩ := BBZ.out.later hB
        obtain ⟨xc0, xc1, xc2, xc3, xc4, xc5⟩ := BCZ.out.later hB
        obtain ⟨xd0, xd1, xd2, xd3, xd4, xd5⟩ := BDZ.out.later hB
        rcases (by omega : i = 0 ∨ i = 1 ∨ i = 2 ∨ i = 3 ∨ i = 4 ∨ i = 5 ∨ i = 6 ∨ i = 7 ∨ i = 8 ∨ i = 9 ∨ i = 10 ∨ i = 11 ∨ i = 12 ∨ i = 13 ∨ i = 14 ∨ i = 15 ∨ i = 16 ∨ i = 17 ∨ i = 18 ∨ i = 19 ∨ i = 20 ∨ i = 21 ∨ i = 22 ∨ i = 23 ∨ i = 24 ∨ i = 25 ∨ i = 26 ∨ i = 27 ∨ i = 28 ∨ i = 29 ∨ i = 30) with rfl | rfl | rfl | rfl | rfl | rfl | rfl | rfl | rfl | rfl | rfl | rfl | rfl | rfl | rfl | rfl | rfl | rfl | rfl | rfl | rfl | rfl | rfl | rfl | rfl | rfl | rfl | rfl | rfl | rfl | rfl
        · simp at ho
          subst ho
          clear hdep hA
          go_simp
          exact hK _ wb (Below.refl _ _) rfl
        · simp at ho
          subst ho
          clear hdep hA
          go_simp
          exact hK _ wb (Below.refl _ _) rfl
        · simp at ho
          subst ho
          have y0 : ac.tmps[46]?.getD undef = .bool bb := hdep { on := 0, ground := .data } (by simp) rfl
          have y1 : ac.tmps[47]?.getD undef = .bool bb := hdep { on := 1, ground := .data } (by simp) rfl
          clear hdep hA
          go_simp
          exact hK _ wb (Below.refl _ _) (by cases bb <;> rfl)
        · simp at ho
          subst ho
          have y2 : ac.tmps[48]?.getD undef = .bool false := hdep { on := 2, ground := .data } (by simp) rfl
          clear hdep hA
          go_simp
          exact hK _ wb (Below.refl _ _) rfl
        · simp at ho
          subst ho
          clear hdep hA
          go_simp
          exact hK _ wb (Below.refl _ _) rfl
        · simp at ho
          subst ho
          clear hdep hA
          go_simp
          exact hK _ wb (Below.refl _ _) rfl
        · simp at ho
          subst ho
          have y4 : ac.tmps[50]?.getD undef = .agg #[.int .i64 c0, .bool c1, .int .i64 c2, .string c3, .slice c4 c4l c4c, .slice c5 c5l c5c] := hdep { on := 4, ground := .data } (by simp) rfl
          have y5 : ac.tmps[51]?.getD undef = .agg #[.int .i64 d0, .bool d1, .int .i64 d2, .string d3, .slice d4 d4l d4c, .slice d5 d5l d5c] := hdep { on := 5, ground := .data } (by simp) rfl
          clear hdep hA
          go_simp
          have hsm := rSame_any (LCZ.out.later hB) (LDZ.out.later hB) wb (Below.refl _ _)
          rw [T.same_self] at hsm
          refine hsm.mono ?_
          rintro e w5 ⟨rfl, hb5⟩
          exact hK _ w5 hb5 rfl
        · simp at ho
          subst ho
          have y6 : ac.tmps[52]?.getD undef = .bool true := hdep { on := 6, ground := .data } (by simp) rfl
          clear hdep hA
          go_simp
          exact hK _ wb (Below.refl _ _) rfl
        · simp at ho
          subst ho
          have y3 : ac.tmps[49]?.getD undef = .bool false := hdep { on := 3, ground := .data } (by simp) rfl
          have y7 : ac.tmps[53]?.getD undef = .bool false := hdep { on := 7, ground := .data } (by simp) rfl
          clear hdep hA
          go_simp
          exact hK _ wb (Below.refl _ _) rfl
        · simp at ho
          subst ho
          have y8 : ac.tmps[54]?.getD undef = .bool false := hdep { on := 8, ground := .data } (by simp) rfl
          clear hdep hA
          go_simp
          exact hK _ wb (Below.refl _ _) rfl
        · simp at ho
          subst ho
          clear hdep hA
          go_simp
          exact hK _ wb (Below.refl _ _) rfl
        · simp at ho
          subst ho
          clear hdep hA
          go_simp
          exact hK _ wb (Below.refl _ _) rfl
        · simp at ho
          subst ho
          clear hdep hA
          go_simp
          exact hK _ wb (Below.refl _ _) rfl
        · simp at ho
          subst ho
          have y10 : ac.tmps[56]?.getD undef = .agg #[.int .i64 a0, .bool a1, .int .i64 a2, .string a3, .slice a4 a4l a4c, .slice a5 a5l a5c] := hdep { on := 10, ground := .data } (by simp) rfl
          have y11 : ac.tmps[57]?.getD undef = .string key := hdep { on := 11, ground := .data } (by simp) rfl
          have y12 : ac.tmps[58]?.getD undef = .agg #[.int .i64 b0, .bool b1, .int .i64 b2, .string b3, .slice b4 b4l b4c, .slice b5 b5l b5c] := hdep { on := 12, ground := .data } (by simp) rfl
          clear hdep hA
          go_simp
          refine (CPT.out wb (bstep HBZ.out hB HBZ.out.size)).mono ?_
          rintro e w5 ⟨f0, f1, f2, f3, f4, f4l, f4c, f5, f5l, f5c, rfl, hl, hb5⟩
          exact hK _ w5 hb5 ⟨f0, f1, f2, f3, f4, f4l, f4c, f5, f5l, f5c, rfl, hl⟩
        · simp at ho
          subst ho
          clear hdep hA
          go_simp
          exact hK _ wb (Below.refl _ _) rfl
        · simp at ho
          subst ho
          clear hdep hA
          go_simp
          exact hK _ wb (Below.refl _ _) rfl
        · simp at ho
          subst ho
          clear hdep hA
          go_simp
          exact hK _ wb (Below.refl _ _) rfl
        · simp at ho
          subst ho
          have y14 : ac.tmps[60]?.getD undef = .agg #[.int .i64 a0, .bool a1, .int .i64 a2, .string a3, .slice a4 a4l a4c, .slice a5 a5l a5c] := hdep { on := 14, ground := .data } (by simp) rfl
          have y15 : ac.tmps[61]?.getD undef = .string key := hdep { on := 15, ground := .data } (by simp) rfl
          have y16 : ac.tmps[62]?.getD undef = .agg #[.int .i64 b0, .bool b1, .int .i64 b2, .string b3, .slice b4 b4l b4c, .slice b5 b5l b5c] := hdep { on := 16, ground := .data } (by simp) rfl
          clear hdep hA
          go_simp
          refine (CRP.out wb (bstep HBZ.out hB HBZ.out.size)).mono ?_
          rintro e w5 ⟨f0, f1, f2, f3, f4, f4l, f4c, f5, f5l, f5c, rfl, hl, hb5⟩
          exact hK _ w5 hb5 ⟨f0, f1, f2, f3, f4, f4l, f4c, f5, f5l, f5c, rfl, hl⟩
        · simp at ho
          subst ho
          obtain ⟨y13f0, y13f1, y13f2, y13f3, y13f4, y13f4l, y13f4c, y13f5, y13f5l, y13f5c, y13, hly13⟩ := hdep { on := 13, ground := .data } (by simp) rfl
          have y13 : ac.tmps[59]?.getD undef = .agg #[.int .i64 y13f0, .bool y13f1, .int .i64 y13f2, .string y13f3, .slice y13f4 y13f4l y13f4c, .slice y13f5 y13f5l y13f5c] := y13
          obtain ⟨y17f0, y17f1, y17f2, y17f3, y17f4, y17f4l, y17f4c, y17f5, y17f5l, y17f5c, y17, hly17⟩ := hdep { on := 17, ground := .data } (by simp) rfl
          have y17 : ac.tmps[63]?.getD undef = .agg #[.int .i64 y17f0, .bool y17f1, .int .i64 y17f2, .string y17f3, .slice y17f4 y17f4l y17f4c, .slice y17f5 y17f5l y17f5c] := y17
          clear hdep hA
          go_simp
          have hsm := rSame_any hly13 hly17 wb (Below.refl _ _)
          rw [T.same_self] at hsm
          refine hsm.mono ?_
          rintro e w5 ⟨rfl, hb5⟩
          exact hK _ w5 hb5 rfl
        · simp at ho
          subst ho
          have y18 : ac.tmps[64]?.getD undef = .bool true := hdep { on := 18, ground := .data } (by simp) rfl
          clear hdep hA
          go_simp
          exact hK _ wb (Below.refl _ _) rfl
        · simp at ho
          subst ho
          have y9 : ac.tmps[55]?.getD undef = .bool false := hdep { on := 9, ground := .data } (by simp) rfl
          have y19 : ac.tmps[65]?.getD undef = .bool false := hdep { on := 19, ground := .data } (by simp) rfl
          clear hdep hA
          go_simp
          exact hK _ wb (Below.refl _ _) rfl
        · simp at ho
          subst ho
          have y20 : ac.tmps[66]?.getD undef = .bool false := hdep { on := 20, ground := .data } (by simp) rfl
          clear hdep hA
          go_simp
          exact hK _ wb (Below.refl _ _) rfl
        · simp at ho
          subst ho
          clear hdep hA
          go_simp
          exact hK _ wb (Below.refl _ _) rfl
        · simp at ho
          subst ho
          clear hdep hA
          go_simp
          exact hK _ wb (Below.refl _ _) rfl
        · simp at ho
          subst ho
          have y22 : ac.tmps[68]?.getD undef = .agg #[.int .i64 a0, .bool a1, .int .i64 a2, .string a3, .slice a4 a4l a4c, .slice a5 a5l a5c] := hdep { on := 22, ground := .data } (by simp) rfl
          have y23 : ac.tmps[69]?.getD undef = .string key := hdep { on := 23, ground := .data } (by simp) rfl
          clear hdep hA
          go_simp
          refine (CDR.out wb (bstep HBZ.out hB HBZ.out.size)).mono ?_
          rintro e w5 ⟨f0, f1, f2, f3, f4, f4l, f4c, f5, f5l, f5c, rfl, hl, hb5⟩
          exact hK _ w5 hb5 ⟨f0, f1, f2, f3, f4, f4l, f4c, f5, f5l, f5c, rfl, hl⟩
        · simp at ho
          subst ho
          clear hdep hA
          go_simp
          exact hK _ wb (Below.refl _ _) rfl
        · simp at ho
          subst ho
          clear hdep hA
          go_simp
          exact hK _ wb (Below.refl _ _) rfl
        · simp at ho
          subst ho
          have y25 : ac.tmps[71]?.getD undef = .agg #[.int .i64 a0, .bool a1, .int .i64 a2, .string a3, .slice a4 a4l a4c, .slice a5 a5l a5c] := hdep { on := 25, ground := .data } (by simp) rfl
          have y26 : ac.tmps[72]?.getD undef = .string key := hdep { on := 26, ground := .data } (by simp) rfl
          clear hdep hA
          go_simp
          refine (CRD.out wb (bstep HBZ.out hB HBZ.out.size)).mono ?_
          rintro e w5 ⟨f0, f1, f2, f3, f4, f4l, f4c, f5, f5l, f5c, rfl, hl, hb5⟩
          exact hK _ w5 hb5 ⟨f0, f1, f2, f3, f4, f4l, f4c, f5, f5l, f5c, rfl, hl⟩
        · simp at ho
          subst ho
          obtain ⟨y24f0, y24f1, y24f2, y24f3, y24f4, y24f4l, y24f4c, y24f5, y24f5l, y24f5c, y24, hly24⟩ := hdep { on := 24, ground := .data } (by simp) rfl
          have y24 : ac.tmps[70]?.getD undef = .agg #[.int .i64 y24f0, .bool y24f1, .int .i64 y24f2, .string y24f3, .slice y24f4 y24f4l y24f4c, .slice y24f5 y24f5l y24f5c] := y24
          obtain ⟨y27f0, y27f1, y27f2, y27f3, y27f4, y27f4l, y27f4c, y27f5, y27f5l, y27f5c, y27, hly27⟩ := hdep { on := 27, ground := .data } (by simp) rfl
          have y27 : ac.tmps[73]?.getD undef = .agg #[.int .i64 y27f0, .bool y27f1, .int .i64 y27f2, .string y27f3, .slice y27f4 y27f4l y27f4c, .slice y27f5 y27f5l y27f5c] := y27
          clear hdep hA
          go_simp
          have hsm := rSame_any hly24 hly27 wb (Below.refl _ _)
          rw [T.same_self] at hsm
          refine hsm.mono ?_
          rintro e w5 ⟨rfl, hb5⟩
          exact hK _ w5 hb5 rfl
        · simp at ho
          subst ho
          have y28 : ac.tmps[74]?.getD undef = .bool true := hdep { on := 28, ground := .data } (by simp) rfl
          clear hdep hA
          go_simp
          exact hK _ wb (Below.refl _ _) rfl
        · simp at ho
          subst ho
          have y21 : ac.tmps[67]?.getD undef = .bool false := hdep { on := 21, ground := .data } (by simp) rfl
          have y29 : ac.tmps[75]?.getD undef = .bool false := hdep { on := 29, ground := .data } (by simp) rfl
          clear hdep hA
          go_simp
          exact hK _ wb (Below.refl _ _) rfl
      case s5 =>
        intro ac wn hA hB hU
        have hs : slots 31 (fun i => match i with | 0 => 46 | 1 => 47 | 2 => 48 | 3 => 49 | 4 => 50 | 5 => 51 | 6 => 52 | 7 => 53 | 8 => 54 | 9 => 55 | 10 => 56 | 11 => 57 | 12 => 58 | 13 => 59 | 14 => 60 | 15 => 61 | 16 => 62 | 17 => 63 | 18 => 64 | 19 => 65 | 20 => 66 | 21 => 67 | 22 => 68 | 23 => 69 | 24 => 70 | 25 => 71 | 26 => 72 | 27 => 73 | 28 => 74 | 29 => 75 | 30 => 76 | _ => 0) = [46, 47, 48, 49, 50, 51, 52, 53, 54, 55, 56, 57, 58, 59, 60, 61, 62, 63, 64, 65, 66, 67, 68, 69, 70, 71, 72, 73, 74, 75, 76] := by rfl
        rw [hs] at hA
        have hac := hA.act (fun t ht => by
          have h8 : t = 46 ∨ t = 47 ∨ t = 48 ∨ t = 49 ∨ t = 50 ∨ t = 51 ∨ t = 52 ∨ t = 53 ∨ t = 54 ∨ t = 55 ∨ t = 56 ∨ t = 57 ∨ t = 58 ∨ t = 59 ∨ t = 60 ∨ t = 61 ∨ t = 62 ∨ t = 63 ∨ t = 64 ∨ t = 65 ∨ t = 66 ∨ t = 67 ∨ t = 68 ∨ t = 69 ∨ t = 70 ∨ t = 71 ∨ t = 72 ∨ t = 73 ∨ t = 74 ∨ t = 75 ∨ t = 76 := by simpa using ht
          rcases h8 with rfl | rfl | rfl | rfl | rfl | rfl | rfl | rfl | rfl | rfl | rfl | rfl | rfl | rfl | rfl | rfl | rfl | rfl | rfl | rfl | rfl | rfl | rfl | rfl | rfl | rfl | rfl | rfl | rfl | rfl | rfl <;> exact Nat.lt_of_lt_of_le (by decide : _ < 121) (Nat.le_refl 121))
        rw [List.foldl_cons, List.foldl_cons, List.foldl_cons, List.foldl_cons, List.foldl_cons, List.foldl_cons, List.foldl_cons, List.foldl_cons, List.foldl_cons, List.foldl_cons, List.foldl_cons, List.foldl_cons, List.foldl_cons, List.foldl_cons, List.foldl_cons, List.foldl_cons, List.foldl_cons, List.foldl_cons, List.foldl_cons, List.foldl_cons, List.foldl_cons, List.foldl_cons, List.foldl_cons, List.foldl_cons, List.foldl_cons, List.foldl_cons, List.foldl_cons, List.foldl_cons, List.foldl_cons, List.foldl_cons, List.foldl_cons, List.foldl_nil] at hac

        have HBN0 := Lib.hid hB
        have HBN := Lib.hid (bstep HBZ.out hB HBZ.out.size)
        have z76 : sl ac 76 = .bool false := hU 30 (by omega)
        clear hU hB hs
        generalize sl ac 46 = x46 at hac z76
        generalize sl ac 47 = x47 at hac z76
        generalize sl ac 48 = x48 at hac z76
        generalize sl ac 49 = x49 at hac z76
        generalize sl ac 50 = x50 at hac z76
        generalize sl ac 51 = x51 at hac z76
        generalize sl ac 52 = x52 at hac z76
        generalize sl ac 53 = x53 at hac z76
        generalize sl ac 54 = x54 at hac z76
        generalize sl ac 55 = x55 at hac z76
        generalize sl ac 56 = x56 at hac z76
        generalize sl ac 57 = x57 at hac z76
        generalize sl ac 58 = x58 at hac z76
        generalize sl ac 59 = x59 at hac z76
        generalize sl ac 60 = x60 at hac z76
        generalize sl ac 61 = x61 at hac z76
        generalize sl ac 62 = x62 at hac z76
        generalize sl ac 63 = x63 at hac z76
        generalize sl ac 64 = x64 at hac z76
        generalize sl ac 65 = x65 at hac z76
        generalize sl ac 66 = x66 at hac z76
        generalize sl ac 67 = x67 at hac z76
        generalize sl ac 68 = x68 at hac z76
        generalize sl ac 69 = x69 at hac z76
        generalize sl ac 70 = x70 at hac z76
        generalize sl ac 71 = x71 at hac z76
        generalize sl ac 72 = x72 at hac z76
        generalize sl ac 73 = x73 at hac z76
        generalize sl ac 74 = x74 at hac z76
        generalize sl ac 75 = x75 at hac z76
        generalize sl ac 76 = x76 at hac z76
        clear hA
        subst z76
        subst hac
        simp only [Act.put, List.setIfInBounds_toArray, List.set_cons_succ, List.set_cons_zero]

        have BAN := Lib.hid (BAZ.out.later HBN0.out)
        have BBN := Lib.hid (BBZ.out.later HBN0.out)
        clear BCZ LCZ BDZ LDZ BAZ BBZ CPT CRP CDR CRD HBN0 HBZ HB7
        generalize hwn : wn = vn at *
        clear hwn
        have B14 := Lib.hid (BoxA.new vn (.int .i64 5) (.bool false) (.int .i64 0) (.string ⟨#[]⟩) (.slice none 0 0) (.slice none 0 0) 25)
        have F14 : Hid (∀ k, (vn.alloc (.cells #[.int .i64 5, .bool false, .int .i64 0, .string ⟨#[]⟩, .slice none 0 0, .slice none 0 0] 25)).frozen? ⟨vn.heap.size, k, none⟩ = false) := fun k => World.frozen?_alloc_new _ _ _ _
        have A14 := Lib.hid ((Below.refl vn.heap.size vn).alloc (Nat.le_refl _) (.cells #[.int .i64 5, .bool false, .int .i64 0, .string ⟨#[]⟩, .slice none 0 0, .slice none 0 0] 25))
        have S14 : Hid (vn.heap.size < (vn.alloc (.cells #[.int .i64 5, .bool false, .int .i64 0, .string ⟨#[]⟩, .slice none 0 0, .slice none 0 0] 25)).heap.size) := by show _ < _; simp
        have K14 : Hid (∀ b, b < vn.heap.size → (vn.alloc (.cells #[.int .i64 5, .bool false, .int .i64 0, .string ⟨#[]⟩, .slice none 0 0, .slice none 0 0] 25)).heap[b]? = vn.heap[b]?) := fun b hb => A14.out.block b hb
        obtain ⟨i0, hi, hz0, hz1, hz2⟩ := info_parts Try.infoP
        have HI0 := Lib.hid hi
        have HZ0 := Lib.hid hz0
        have HZ1 := Lib.hid hz1
        have HZ2 := Lib.hid hz2
        have HWN := Lib.hid (bstep HW0.out HBN.out HW0.out.size)
        have HNA : Hid (∀ j (hj : j < ks.length), putAll ((numR ks).take (j + 1)) = putR ks[j] (T.int j) (putAll ((numR ks).take j)) ∧ (numR ks).take (j + 1) = (numR ks).take j ++ [(ks[j], T.int j)]) := fun j hj => by
          have hl : j < (numR ks).length := by rw [numR_len]; exact hj
          rw [putAll_take _ j hl, List.take_succ_eq_append_getElem hl, numR_at ks j hl hj]
          exact ⟨rfl, rfl⟩
        clear hi hz0 hz1 hz2
        go_wp2_with fail
        go_loopw [13, 80] (fun v13 vi wr => ∃ (j : Nat) (av : Option Addr) (cv : Nat) (K : List Q) (t0 : Int) (t1 : Bool) (t2 : Int) (t3 : ByteArray) (t4 : Option Addr) (t4l t4c : Nat) (t5 : Option Addr) (t5l t5c : Nat), j ≤ ks.length ∧ vi = .int .i64 j ∧ v13 = .slice av K.length cv ∧ Hid (OwnW (fun b => vn.heap.size < b) vn.heap.size wr (.slice av K.length cv) K) ∧ Hid (K.map strip = (numR ks).take j) ∧ K.length ≤ j ∧ Hid (K.length = 0 → av = none ∧ cv = 0) ∧ BoxA wr vn.heap.size (.int .i64 t0) (.bool t1) (.int .i64 t2) (.string t3) (.slice t4 t4l t4c) (.slice t5 t5l t5c) ∧ Hid (Lies wr (fun b => vn.heap.size < b ∧ (Value.slice av K.length cv).ownBlock ≠ some b) (mk5 (putAll ((numR ks).take (j)))) #[.int .i64 t0, .bool t1, .int .i64 t2, .string t3, .slice t4 t4l t4c, .slice t5 t5l t5c]) ∧ Hid (∀ k, wr.frozen? ⟨vn.heap.size, k, none⟩ = false) ∧ Hid (∀ b, b < vn.heap.size → wr.heap[b]? = vn.heap[b]?) ∧ vn.heap.size < wr.heap.size ∧ Hid (Below vn.heap.size vn wr)) (fun _ vi _ => ks.length - (intOf vi).toNat)
        case atStart => exact ⟨0, none, 0, [], 5, false, 0, ⟨#[]⟩, none, 0, 0, none, 0, 0, by omega, rfl, rfl, OwnW.nil _ _ _, rfl, Nat.le_refl _, fun _ => ⟨rfl, rfl⟩, B14.out, none5_lies _ _, F14, K14, S14.out, A14⟩
        case round =>
          clear B14 F14 A14 S14 K14
          obtain ⟨j, av, cv, K, t0, t1, t2, t3, t4, t4l, t4c, t5, t5l, t5c, hj, rfl, rfl, HK, HS, hKj, HN0, hbox, HLI, HFZ, KP, hsz, HBW⟩ := hrel
          have HBOX := Lib.hid hbox
          clear hbox
          have hbr := bstep HWN.out HBW.out HWN.out.size
          by_cases hjl : j < ks.length
          · obtain ⟨bs, os, rfl, r0⟩ := text_at HKS.out hbr hjl
            have hkj := HKS.out.sizes j hjl
            have CKJ := Lib.hid (fun wb => rKey_any ks[j] hkj wb)
            have hjs : (j : Int) ≤ 50 := by omega
            have hjw : (Lit.int .i64 (j : Int)).wf = true := (by simp [Lit.wf] : (Lit.int .i64 (j : Int)).wf = true ↔ IntKind.i64.min ≤ (j : Int) ∧ (j : Int) ≤ IntKind.i64.max).2 ⟨by show (-9223372036854775808 : Int) ≤ (j : Int); omega, by show (j : Int) ≤ 9223372036854775807; omega⟩
            have HJW := Lib.hid hjw
            clear hjw
            go_wp2_with fail
            refine (CKJ.out _).mono ?_
            rintro e w8 ⟨rfl, hw8⟩
            subst hw8
            cases hkb : keyB ks[j] with
            | false =>
              have HBK := Lib.hid (bstep HBN.out HBW.out HBN.out.size)
              go_wp2_with fail
              refine (awake_any _).mono ?_
              rintro e w99 ⟨rfl, hb99⟩
              go_wp2_with fail
              go_ret
              exact ⟨rfl, bstep HV.out (bstep HBK.out hb99 HBK.out.size) HV.out.size⟩

            | true =>
              clear CKJ hkb
              have b17 := (Below.refl wr.heap.size wr).alloc (Nat.le_refl _) (.cells #[.string ks[j], .int .i64 2, .bool false, .int .i64 j, .string ⟨#[]⟩, .slice none 0 0, .slice none 0 0] 36)
              have c17 : ∀ i, (wr.alloc (.cells #[.string ks[j], .int .i64 2, .bool false, .int .i64 j, .string ⟨#[]⟩, .slice none 0 0, .slice none 0 0] 36)).cell? ⟨wr.heap.size, i, none⟩ = (#[.string ks[j], .int .i64 2, .bool false, .int .i64 j, .string ⟨#[]⟩, .slice none 0 0, .slice none 0 0] : Array Value)[i]? := fun i => World.cell?_alloc_new _ _ _ i
              have B17 := Lib.hid b17
              have s17 : (wr.alloc (.cells #[.string ks[j], .int .i64 2, .bool false, .int .i64 j, .string ⟨#[]⟩, .slice none 0 0, .slice none 0 0] 36)).heap.size = wr.heap.size + 1 := by simp
              have s17a := Nat.le_of_eq s17
              have s17b := Nat.le_of_eq s17.symm
              clear b17 s17
              go_upto_region 15 with fail
              generalize (wr.alloc (.cells #[.string ks[j], .int .i64 2, .bool false, .int .i64 j, .string ⟨#[]⟩, .slice none 0 0, .slice none 0 0] 36)) = v5 at *
              have C17 := Lib.hid c17
              have HK5 := Lib.hid (HK.out.later B17.out)
              have HB5b := Lib.hid ((Below.refl v5.heap.size v5).alloc (Nat.le_refl _) (.cells #[.string ks[j], .int .i64 2, .bool false, .int .i64 j, .string ⟨#[]⟩, .slice none 0 0, .slice none 0 0] 36))
              have HKa := Lib.hid (HK5.out.later HB5b.out)
              have OWN := Lib.hid HKa.out.own
              obtain ⟨x0, x1, x2, x3, x4, x5, x6⟩ : v5.cell? ⟨wr.heap.size, 0, none⟩ = some (.string ks[j]) ∧ v5.cell? ⟨wr.heap.size, 1, none⟩ = some (.int .i64 2) ∧ v5.cell? ⟨wr.heap.size, 2, none⟩ = some (.bool false) ∧ v5.cell? ⟨wr.heap.size, 3, none⟩ = some (.int .i64 j) ∧ v5.cell? ⟨wr.heap.size, 4, none⟩ = some (.string ⟨#[]⟩) ∧ v5.cell? ⟨wr.heap.size, 5, none⟩ = some (.slice none 0 0) ∧ v5.cell? ⟨wr.heap.size, 6, none⟩ = some (.slice none 0 0) := ⟨c17 0, c17 1, c17 2, c17 3, c17 4, c17 5, c17 6⟩
              have hobK : Hid (∀ g, (Value.slice av K.length cv).ownBlock = some g → vn.heap.size < g ∧ g < wr.heap.size) := fun g hg => HK.out.block hg
              clear c17
              go_wp2_with (at_builtin; refine wpList_append_own_any _ rfl (.tmp 93) (.tmp 95) 23 rfl (vn.heap.size + 1) 36 i0 _ 7 104 Try.underlying23 HI0.out HZ0.out HZ1.out HZ2.out (by rfl) (by decide) (.slice av K.length cv) K.length _ rfl OWN.out (some ⟨v5.heap.size, 0, none⟩) 1 1 [.string ks[j], .int .i64 2, .bool false, .int .i64 j, .string ⟨#[]⟩, .slice none 0 0, .slice none 0 0] rfl rfl (fun h => by cases h) ?c1 ?c2 ?c3 ?c4 ?c5 ?_)
              case c1 =>
                intro ad h j' u' hu
                injection h with h
                subst h
                exact lit_cells v5 _ _ j' u' hu
              case c2 =>
                intro u' hu
                simp at hu
                rcases hu with rfl | rfl | rfl | rfl | rfl | rfl | rfl <;> rfl
              case c3 => unfold maxLen; omega
              case c4 => omega
              case c5 => simp; omega
              intro v7 w7 own7 hg7 hob7
              obtain ⟨a7, c7, rfl⟩ := row_form own7
              have hlen : (K ++ [(ks[j], T.int j, (#[.int .i64 2, .bool false, .int .i64 j, .string ⟨#[]⟩, .slice none 0 0, .slice none 0 0] : Array Value))]).length = K.length + 1 := by rw [List.length_append]; rfl
              obtain ⟨K7, eK7⟩ : ∃ K7, K7 = K ++ [(ks[j], T.int j, (#[.int .i64 2, .bool false, .int .i64 j, .string ⟨#[]⟩, .slice none 0 0, .slice none 0 0] : Array Value))] := ⟨_, rfl⟩
              rw [← eK7] at hlen
              have eA : v5.heap.size + 1 = (v5.alloc (.cells #[.string ks[j], .int .i64 2, .bool false, .int .i64 j, .string ⟨#[]⟩, .slice none 0 0, .slice none 0 0] 36)).heap.size := by simp
              rw [eA] at hob7
              have HK7 : Hid (OwnW (fun b => vn.heap.size < b) vn.heap.size w7 (.slice a7 K7.length c7) K7) := by
                have h := HKa.out.one (int_lies _ _ j HJW.out) hkj own7 hg7 hob7
                show OwnW _ _ _ _ _
                rw [hlen, eK7]
                exact h
              rw [← hlen] at hob7
              clear eA
              have HS7 : Hid (K7.map strip = (numR ks).take (j + 1)) := by
                show _ = _
                rw [eK7, List.map_append, HS.out, (HNA.out j hjl).2]
                rfl
              have keep7 : ∀ b, b < v5.heap.size → (Value.slice av K.length cv).ownBlock ≠ some b → w7.heap[b]? = v5.heap[b]? := fun b hb hne => (hg7.block b (Nat.lt_of_lt_of_le hb HB5b.out.size) (fun e => hne e.symm)).trans (HB5b.out.block b hb)
              have KP7 : Hid (∀ b, b ≤ vn.heap.size → w7.heap[b]? = v5.heap[b]?) := fun b hb => keep7 b (by omega) (fun e => by have := (hobK.out _ e).1; omega)
              have kr := keep7 wr.heap.size (by omega) (fun e => by have := (hobK.out _ e).2; omega)
              have x0 := (World.cell?_of_block (a := ⟨wr.heap.size, 0, none⟩) kr).trans x0
              have x1 := (World.cell?_of_block (a := ⟨wr.heap.size, 1, none⟩) kr).trans x1
              have x2 := (World.cell?_of_block (a := ⟨wr.heap.size, 2, none⟩) kr).trans x2
              have x3 := (World.cell?_of_block (a := ⟨wr.heap.size, 3, none⟩) kr).trans x3
              have x4 := (World.cell?_of_block (a := ⟨wr.heap.size, 4, none⟩) kr).trans x4
              have x5 := (World.cell?_of_block (a := ⟨wr.heap.size, 5, none⟩) kr).trans x5
              have x6 := (World.cell?_of_block (a := ⟨wr.heap.size, 6, none⟩) kr).trans x6
              have HBX7 := Lib.hid ((HBOX.out.later B17.out).block (KP7.out vn.heap.size (Nat.le_refl _)))
              have HFZ7 : Hid (∀ k, w7.frozen? ⟨vn.heap.size, k, none⟩ = false) := fun k => (World.frozen?_of_block (a := ⟨vn.heap.size, k, none⟩) (KP7.out vn.heap.size (Nat.le_refl _))).trans ((B17.out.frozen (p := ⟨vn.heap.size, k, none⟩) hsz).trans (HFZ.out k))
              have HL7 : Hid (Lies w7 (fun b => vn.heap.size < b ∧ (Value.slice a7 K7.length c7).ownBlock ≠ some b) (mk5 (putAll ((numR ks).take j))) #[.int .i64 t0, .bool t1, .int .i64 t2, .string t3, .slice t4 t4l t4c, .slice t5 t5l t5c]) := by
                have h := ((HLI.out.later B17.out).keepB (w' := w7) fun b hR hlt => keep7 b hlt hR.2)
                refine h.weaken fun b hb => ⟨hb.1.1, fun e => ?_⟩
                rcases hob7 with e2 | e2
                · have e3 : (Value.slice a7 K7.length c7).ownBlock = (Value.slice av K.length cv).ownBlock := e2
                  rw [e3] at e
                  exact hb.1.2 e
                · have e3 : (Value.slice a7 K7.length c7).ownBlock = some (v5.alloc (.cells #[.string ks[j], .int .i64 2, .bool false, .int .i64 j, .string ⟨#[]⟩, .slice none 0 0, .slice none 0 0] 36)).heap.size := e2
                  rw [e3] at e
                  injection e with e
                  have := hb.2
                  simp at e
                  omega
              have hs7 : v5.heap.size ≤ w7.heap.size := Nat.le_trans HB5b.out.size hg7.size
              have HBW7 : Hid (Below vn.heap.size vn w7) := (bstep HBW.out (B17.out.trans (HB5b.out.mono (by omega))) HBW.out.size).grown hg7 (by have := HB5b.out.size; omega) (fun g hg => (hobK.out g hg).1 |> Nat.le_of_lt)
              have KPv : Hid (∀ b, b < vn.heap.size → w7.heap[b]? = vn.heap[b]?) := fun b hb => (KP7.out b (by omega)).trans ((B17.out.block b (by omega)).trans (KP.out b hb))
              obtain ⟨xm0, xm1, xm2, xm3, xm4, xm5⟩ := HBX7.out
              have hasc := putAll_asc (numR ks) j
              have hml := putAll_len (numR ks) j
              have CRQ : Hid (∀ wb, Below w7.heap.size w7 wb → Calls Try.prog 12 #[.agg #[.int .i64 t0, .bool t1, .int .i64 t2, .string t3, .slice t4 t4l t4c, .slice t5 t5l t5c], .string ks[j], .agg #[.int .i64 2, .bool false, .int .i64 j, .string ⟨#[]⟩, .slice none 0 0, .slice none 0 0]] wb (RPutIn w7 (fun b => (fun b => vn.heap.size < b ∧ (Value.slice a7 K7.length c7).ownBlock ≠ some b) b ∨ (fun b => vn.heap.size < b ∧ (Value.slice a7 K7.length c7).ownBlock ≠ some b) b) wb (mk5 (putAll ((numR ks).take (j + 1)))))) := fun wb hb => by
                have h := rPut_any HL7.out (int_lies w7 (fun b => vn.heap.size < b ∧ (Value.slice a7 K7.length c7).ownBlock ≠ some b) j HJW.out) ks[j] hkj (by show (putAll ((numR ks).take j)).length ≤ _; omega) wb hb
                rw [show (mk5 (putAll ((numR ks).take j))).map = putAll ((numR ks).take j) from rfl, rputG_put _ _ hasc, ← (HNA.out j hjl).1] at h
                exact h
              clear hg7 own7 hob7 keep7 kr hasc hml KP7 HKa HK5 OWN HB5b HL7 r0 eK7
              go_wp2_with fail
              refine (CRQ.out _ (Below.refl _ _)).mono ?_
              rintro e w8 ⟨es, rfl, hL8, hb8⟩
              obtain ⟨q0, q1, q2, q3, q4, q4l, q4c, q5, q5l, q5c, rfl⟩ := hL8.six
              have HL8 := Lib.hid hL8
              have HBX8 := Lib.hid (HBX7.out.later hb8)
              have HFZ8 : Hid (∀ k, w8.frozen? ⟨vn.heap.size, k, none⟩ = false) := fun k => (hb8.frozen (p := ⟨vn.heap.size, k, none⟩) (show vn.heap.size < _ by omega)).trans (HFZ7.out k)
              have hF8 := HFZ8.out
              have HK8 := Lib.hid (HK7.out.later hb8)
              have hobK7 : Hid (∀ g, (Value.slice a7 K7.length c7).ownBlock = some g → vn.heap.size < g ∧ g < w7.heap.size) := fun g hg => HK7.out.block hg
              have HBW8 := Lib.hid (bstep HBW7.out hb8 HBW7.out.size)
              have KP8 : Hid (∀ b, b < vn.heap.size → w8.heap[b]? = vn.heap[b]?) := fun b hb => (hb8.block b (by omega)).trans (KPv.out b hb)
              have hs8 := hb8.size
              obtain ⟨xm0, xm1, xm2, xm3, xm4, xm5⟩ := HBX8.out
              have NBX := Lib.hid (HBX8.out.row (.int .i64 q0) (.bool q1) (.int .i64 q2) (.string q3) (.slice q4 q4l q4c) (.slice q5 q5l q5c))
              have NFZ : Hid (∀ k, (setRow w8 vn.heap.size 0 [.int .i64 q0, .bool q1, .int .i64 q2, .string q3, .slice q4 q4l q4c, .slice q5 q5l q5c]).frozen? ⟨vn.heap.size, k, none⟩ = false) := fun k => (setRow_frozen vn.heap.size [.int .i64 q0, .bool q1, .int .i64 q2, .string q3, .slice q4 q4l q4c, .slice q5 q5l q5c] w8 0 _).trans (HFZ8.out k)
              have NKP : Hid (∀ b, b < vn.heap.size → (setRow w8 vn.heap.size 0 [.int .i64 q0, .bool q1, .int .i64 q2, .string q3, .slice q4 q4l q4c, .slice q5 q5l q5c]).heap[b]? = vn.heap[b]?) := fun b hb => (setRow_heap vn.heap.size [.int .i64 q0, .bool q1, .int .i64 q2, .string q3, .slice q4 q4l q4c, .slice q5 q5l q5c] w8 0 b (by omega)).trans (KP8.out b hb)
              have hss := setRow_size vn.heap.size [.int .i64 q0, .bool q1, .int .i64 q2, .string q3, .slice q4 q4l q4c, .slice q5 q5l q5c] w8 0
              have NSZ : vn.heap.size < (setRow w8 vn.heap.size 0 [.int .i64 q0, .bool q1, .int .i64 q2, .string q3, .slice q4 q4l q4c, .slice q5 q5l q5c]).heap.size := by rw [hss]; omega
              have NBW := Lib.hid (setRow_below vn.heap.size (Nat.le_refl _) [.int .i64 q0, .bool q1, .int .i64 q2, .string q3, .slice q4 q4l q4c, .slice q5 q5l q5c] w8 0 HBW8.out)
              have NHK : Hid (OwnW (fun b => vn.heap.size < b) vn.heap.size (setRow w8 vn.heap.size 0 [.int .i64 q0, .bool q1, .int .i64 q2, .string q3, .slice q4 q4l q4c, .slice q5 q5l q5c]) (.slice a7 K7.length c7) K7) := HK8.out.keep (fun b _ hne => setRow_heap vn.heap.size [.int .i64 q0, .bool q1, .int .i64 q2, .string q3, .slice q4 q4l q4c, .slice q5 q5l q5c] w8 0 b hne) (Nat.le_of_eq hss.symm)
              have NHL : Hid (Lies (setRow w8 vn.heap.size 0 [.int .i64 q0, .bool q1, .int .i64 q2, .string q3, .slice q4 q4l q4c, .slice q5 q5l q5c]) (fun b => vn.heap.size < b ∧ (Value.slice a7 K7.length c7).ownBlock ≠ some b) (mk5 (putAll ((numR ks).take (j + 1)))) #[.int .i64 q0, .bool q1, .int .i64 q2, .string q3, .slice q4 q4l q4c, .slice q5 q5l q5c]) := (HL8.out.keepB (fun b hR _ => setRow_heap vn.heap.size [.int .i64 q0, .bool q1, .int .i64 q2, .string q3, .slice q4 q4l q4c, .slice q5 q5l q5c] w8 0 b (by
                rcases hR with h | h
                · rcases h.1 with h | h
                  · have := h.1; omega
                  · have := h.1; omega
                · omega))).weaken fun b hb => by
                rcases hb.1 with h | h
                · rcases h.1 with h | h
                  · exact h
                  · exact h
                · exact ⟨by omega, fun e => by have := (hobK7.out _ e).2; omega⟩
              have NN0 : Hid (K7.length = 0 → a7 = none ∧ c7 = 0) := fun h => absurd h (by omega)
              clear hL8 hb8 hss HL8 HK8 HK7 HBX7 CRQ HBW8 KP8 HFZ8 HBX8
              go_wp2_with fail
              rw [show ((((((w8.setCell ⟨vn.heap.size, 0, none⟩ (.int .i64 q0)).setCell ⟨vn.heap.size, 1, none⟩ (.bool q1)).setCell ⟨vn.heap.size, 2, none⟩ (.int .i64 q2)).setCell ⟨vn.heap.size, 3, none⟩ (.string q3)).setCell ⟨vn.heap.size, 4, none⟩ (.slice q4 q4l q4c)).setCell ⟨vn.heap.size, 5, none⟩ (.slice q5 q5l q5c)) = (setRow w8 vn.heap.size 0 [.int .i64 q0, .bool q1, .int .i64 q2, .string q3, .slice q4 q4l q4c, .slice q5 q5l q5c]) from rfl]
              generalize (setRow w8 vn.heap.size 0 [.int .i64 q0, .bool q1, .int .i64 q2, .string q3, .slice q4 q4l q4c, .slice q5 q5l q5c]) = w9 at *
              go_roundw
              case rel => exact ⟨j + 1, a7, c7, K7, q0, q1, q2, q3, q4, q4l, q4c, q5, q5l, q5c, by omega, by go_num, by rw [hlen], NHK, HS7, by omega, NN0, NBX.out, NHL, NFZ, NKP, NSZ, NBW⟩
              case measure => simp [intOf]; omega
          · obtain rfl : j = ks.length := by omega
            have hl9 := HLI.out
            rw [List.take_of_length_le (by rw [numR_len]; exact Nat.le_refl _)] at hl9
            have HLA := Lib.hid hl9
            have hs9 := HS.out
            rw [List.take_of_length_le (by rw [numR_len]; exact Nat.le_refl _)] at hs9
            have hkl : K.length = ks.length := by rw [← numR_len ks, ← hs9, List.length_map]
            have HBV := Lib.hid (bstep HBN.out HBW.out HBN.out.size)
            have BAR := Lib.hid (BAN.out.later HBW.out)
            have BBR := Lib.hid (BBN.out.later HBW.out)
            have CMP : Hid (∀ wb, Below wr.heap.size wr wb → Calls Try.prog 15 #[.slice av K.length cv] wb (MadeAll wb (numR ks))) := fun wb hb => by
              obtain ⟨a9, cap9, cm9, e9, hS9⟩ := HK.out.done (by omega)
              obtain ⟨rfl, rfl⟩ : av = a9 ∧ cv = cap9 := by simpa using e9
              rw [hs9] at hS9
              have h := tMap_any hS9 (by rw [numR_len]; omega) (fun hz => HN0.out (by rw [numR_len] at hz; omega)) wb hb
              rw [numR_len, ← hkl] at h
              exact h
            clear hl9 hs9 hkl HLI HS HNA HBN BAN BBN HN0
            go_upto_region 18 with fail
            refine wp_region_specs3 wr 19 (fun i => match i with | 0 => 103 | 1 => 104 | 2 => 105 | 3 => 106 | 4 => 107 | 5 => 108 | 6 => 109 | 7 => 110 | 8 => 111 | 9 => 112 | 10 => 113 | 11 => 114 | 12 => 115 | 13 => 116 | 14 => 117 | 15 => 118 | 16 => 119 | 17 => 120 | 18 => 8 | _ => 0) (fun i x wx => match i with | 0 => x = .bool true | 1 => x = .bool true | 2 => x = .slice av K.length cv | 3 => ∃ (f0 : Int) (f1 : Bool) (f2 : Int) (f3 : ByteArray) (f4 : Option Addr) (f4l f4c : Nat) (f5 : Option Addr) (f5l f5c : Nat), x = .agg #[.int .i64 f0, .bool f1, .int .i64 f2, .string f3, .slice f4 f4l f4c, .slice f5 f5l f5c] ∧ Lies wx (fun _ => True) (mk5 (putAll (numR ks))) #[.int .i64 f0, .bool f1, .int .i64 f2, .string f3, .slice f4 f4l f4c, .slice f5 f5l f5c] | 4 => x = .agg #[.int .i64 t0, .bool t1, .int .i64 t2, .string t3, .slice t4 t4l t4c, .slice t5 t5l t5c] | 5 => x = .bool true | 6 => x = .bool true | 7 => x = .bool true | 8 => x = .agg #[.int .i64 a0, .bool a1, .int .i64 a2, .string a3, .slice a4 a4l a4c, .slice a5 a5l a5c] | 9 => x = .agg #[.int .i64 b0, .bool b1, .int .i64 b2, .string b3, .slice b4 b4l b4c, .slice b5 b5l b5c] | 10 => ∃ (sb : Nat) (cl : Nat → Array Value), x = .slice (some ⟨sb, 0, none⟩) 2 2 ∧ SliceV wx (fun _ => True) [t, u] (some ⟨sb, 0, none⟩) 2 cl | 11 => ∃ (f0 : Int) (f1 : Bool) (f2 : Int) (f3 : ByteArray) (f4 : Option Addr) (f4l f4c : Nat) (f5 : Option Addr) (f5l f5c : Nat), x = .agg #[.int .i64 f0, .bool f1, .int .i64 f2, .string f3, .slice f4 f4l f4c, .slice f5 f5l f5c] ∧ Lies wx (fun _ => True) (T.listOf [t, u]) #[.int .i64 f0, .bool f1, .int .i64 f2, .string f3, .slice f4 f4l f4c, .slice f5 f5l f5c] | 12 => x = .agg #[.int .i64 a0, .bool a1, .int .i64 a2, .string a3, .slice a4 a4l a4c, .slice a5 a5l a5c] | 13 => x = .agg #[.int .i64 b0, .bool b1, .int .i64 b2, .string b3, .slice b4 b4l b4c, .slice b5 b5l b5c] | 14 => ∃ (sb : Nat) (cl : Nat → Array Value), x = .slice (some ⟨sb, 0, none⟩) 2 2 ∧ SliceV wx (fun _ => True) [t, u] (some ⟨sb, 0, none⟩) 2 cl | 15 => ∃ (sb : Nat) (cl : Nat → Array Value), x = .agg #[.int .i64 4, .bool false, .int .i64 0, .string ⟨#[]⟩, .slice (some ⟨sb, 0, none⟩) 2 2, .slice none 0 0] ∧ SliceV wx (fun _ => True) [t, u] (some ⟨sb, 0, none⟩) 2 cl | 16 => x = .bool true | 17 => x = .bool true | 18 => x = .bool true | _ => True) (by kernel_rfl) (by kernel_rfl) ?s1 (Below.refl _ _) ?s2 ?s3 ?s4 ?s5
            case s1 => intro i hi; rcases (by omega : i = 0 ∨ i = 1 ∨ i = 2 ∨ i = 3 ∨ i = 4 ∨ i = 5 ∨ i = 6 ∨ i = 7 ∨ i = 8 ∨ i = 9 ∨ i = 10 ∨ i = 11 ∨ i = 12 ∨ i = 13 ∨ i = 14 ∨ i = 15 ∨ i = 16 ∨ i = 17 ∨ i = 18) with rfl | rfl | rfl | rfl | rfl | rfl | rfl | rfl | rfl | rfl | rfl | rfl | rfl | rfl | rfl | rfl | rfl | rfl | rfl <;> exact Nat.lt_of_lt_of_le (by decide : _ < 121) (Nat.le_refl 121)
            case s2 =>
              intro i x w1 w2 hb hU
              match i, hU with
              | 3, ⟨f0, f1, f2, f3, f4, f4l, f4c, f5, f5l, f5c, e, hl⟩ => exact ⟨f0, f1, f2, f3, f4, f4l, f4c, f5, f5l, f5c, e, hl.later hb⟩
              | 10, ⟨sb, cl, e, hS⟩ => exact ⟨sb, cl, e, hS.keepB fun b _ hlt => hb.block b hlt⟩
              | 11, ⟨f0, f1, f2, f3, f4, f4l, f4c, f5, f5l, f5c, e, hl⟩ => exact ⟨f0, f1, f2, f3, f4, f4l, f4c, f5, f5l, f5c, e, hl.later hb⟩
              | 14, ⟨sb, cl, e, hS⟩ => exact ⟨sb, cl, e, hS.keepB fun b _ hlt => hb.block b hlt⟩
              | 15, ⟨sb, cl, e, hS⟩ => exact ⟨sb, cl, e, hS.keepB fun b _ hlt => hb.block b hlt⟩
              | 0, h | 1, h | 2, h | 4, h | 5, h | 6, h | 7, h | 8, h | 9, h | 12, h | 13, h | 16, h | 17, h | 18, h => exact h
              | (n + 19), _ => trivial
            case s3 =>
              intro i o g b ho hg x w hu
              have hi : i < 19 := (Array.getElem?_eq_some_iff.1 ho).1
              rcases (by omega : i = 0 ∨ i = 1 ∨ i = 2 ∨ i = 3 ∨ i = 4 ∨ i = 5 ∨ i = 6 ∨ i = 7 ∨ i = 8 ∨ i = 9 ∨ i = 10 ∨ i = 11 ∨ i = 12 ∨ i = 13 ∨ i = 14 ∨ i = 15 ∨ i = 16 ∨ i = 17 ∨ i = 18) with rfl | rfl | rfl | rfl | rfl | rfl | rfl | rfl | rfl | rfl | rfl | rfl | rfl | rfl | rfl | rfl | rfl | rfl | rfl
              · simp at ho; subst ho; cases hg
              · simp at ho; subst ho; cases hg
              · simp at ho; subst ho; cases hg; exact hu
              · simp at ho; subst ho; cases hg; exact hu
              · simp at ho; subst ho; cases hg; exact hu
              · simp at ho; subst ho; cases hg; exact hu
              · simp at ho; subst ho; cases hg
              · simp at ho; subst ho; cases hg
              · simp at ho; subst ho; cases hg; exact hu
              · simp at ho; subst ho; cases hg; exact hu
              · simp at ho; subst ho; cases hg; exact hu
              · simp at ho; subst ho; cases hg; exact hu
              · simp at ho; subst ho; cases hg; exact hu
              · simp at ho; subst ho; cases hg; exact hu
              · simp at ho; subst ho; cases hg; exact hu
              · simp at ho; subst ho; cases hg; exact hu
              · simp at ho; subst ho; cases hg; exact hu
              · simp at ho; subst ho; cases hg
              · simp at ho; subst ho; cases hg
            case s4 =>
              intro i o ac wb K' ho hi hA hB hdep hK
              have sv4 : ac.tmps[4]?.getD undef = .pointer (some ⟨w.heap.size, 0, none⟩) := hA.sl (t := 4) (by decide)
              have sv5 : ac.tmps[5]?.getD undef = .pointer (some ⟨w.heap.size + 1, 0, none⟩) := hA.sl (t := 5) (by decide)
              have sv13 : ac.tmps[13]?.getD undef = .slice av K.length cv := hA.sl (t := 13) (by decide)
              have sv14 : ac.tmps[14]?.getD undef = .pointer (some ⟨vn.heap.size, 0, none⟩) := hA.sl (t := 14) (by decide)
              obtain ⟨xa0, xa1, xa2, xa3, xa4, xa5⟩ := BAR.out.later hB
              obtain ⟨xb0, xb1, xb2, xb3, xb4, xb5⟩ := BBR.out.later hB
              obtain ⟨xm0, xm1, xm2, xm3, xm4, xm5⟩ := HBOX.out.later hB
              rcases (by omega : i = 0 ∨ i = 1 ∨ i = 2 ∨ i = 3 ∨ i = 4 ∨ i = 5 ∨ i = 6 ∨ i = 7 ∨ i = 8 ∨ i = 9 ∨ i = 10 ∨ i = 11 ∨ i = 12 ∨ i = 13 ∨ i = 14 ∨ i = 15 ∨ i = 16 ∨ i = 17 ∨ i = 18) with rfl | rfl | rfl | rfl | rfl | rfl | rfl | rfl | rfl | rfl | rfl | rfl | rfl | rfl | rfl | rfl | rfl | rfl | rfl
              · simp at ho
                subst ho
                clear hdep hA
                go_simp
                refine (AW.out wb (bstep HBV.out hB HBV.out.size)).mono ?_
                rintro e w5 ⟨rfl, hb5⟩
                exact hK _ w5 hb5 rfl
              · simp at ho
                subst ho
                have y0 : ac.tmps[103]?.getD undef = .bool true := hdep { on := 0, ground := .data } (by simp) rfl
                clear hdep hA
                go_simp
                exact hK _ wb (Below.refl _ _) rfl
              · simp at ho
                subst ho
                clear hdep hA
                go_simp
                exact hK _ wb (Below.refl _ _) rfl
              · simp at ho
                subst ho
                have y2 : ac.tmps[105]?.getD undef = .slice av K.length cv := hdep { on := 2, ground := .data } (by simp) rfl
                clear hdep hA
                go_simp
                refine (CMP.out wb hB).mono ?_
                rintro e w5 ⟨ds, rfl, hL, hb5⟩
                obtain ⟨f0, f1, f2, f3, f4, f4l, f4c, f5, f5l, f5c, rfl⟩ := hL.six
                exact hK _ w5 hb5 ⟨f0, f1, f2, f3, f4, f4l, f4c, f5, f5l, f5c, rfl, hL.weaken fun _ _ => trivial⟩
              · simp at ho
                subst ho
                clear hdep hA
                go_simp
                exact hK _ wb (Below.refl _ _) rfl
              · simp at ho
                subst ho
                obtain ⟨y3f0, y3f1, y3f2, y3f3, y3f4, y3f4l, y3f4c, y3f5, y3f5l, y3f5c, y3, hly3⟩ := hdep { on := 3, ground := .data } (by simp) rfl
                have y3 : ac.tmps[106]?.getD undef = .agg #[.int .i64 y3f0, .bool y3f1, .int .i64 y3f2, .string y3f3, .slice y3f4 y3f4l y3f4c, .slice y3f5 y3f5l y3f5c] := y3
                have y4 : ac.tmps[107]?.getD undef = .agg #[.int .i64 t0, .bool t1, .int .i64 t2, .string t3, .slice t4 t4l t4c, .slice t5 t5l t5c] := hdep { on := 4, ground := .data } (by simp) rfl
                clear hdep hA
                go_simp
                have hsm := rSame_any hly3 (HLA.out.later hB) wb (Below.refl _ _)
                rw [T.same_self] at hsm
                refine hsm.mono ?_
                rintro e w5 ⟨rfl, hb5⟩
                exact hK _ w5 hb5 rfl
              · simp at ho
                subst ho
                have y1 : ac.tmps[104]?.getD undef = .bool true := hdep { on := 1, ground := .data } (by simp) rfl
                have y5 : ac.tmps[108]?.getD undef = .bool true := hdep { on := 5, ground := .data } (by simp) rfl
                clear hdep hA
                go_simp
                exact hK _ wb (Below.refl _ _) rfl
              · simp at ho
                subst ho
                have y6 : ac.tmps[109]?.getD undef = .bool true := hdep { on := 6, ground := .data } (by simp) rfl
                clear hdep hA
                go_simp
                exact hK _ wb (Below.refl _ _) rfl
              · simp at ho
                subst ho
                clear hdep hA
                go_simp
                exact hK _ wb (Below.refl _ _) rfl
              · simp at ho
                subst ho
                clear hdep hA
                go_simp
                exact hK _ wb (Below.refl _ _) rfl
              · simp at ho
                subst ho
                have y8 : ac.tmps[111]?.getD undef = .agg #[.int .i64 a0, .bool a1, .int .i64 a2, .string a3, .slice a4 a4l a4c, .slice a5 a5l a5c] := hdep { on := 8, ground := .data } (by simp) rfl
                have y9 : ac.tmps[112]?.getD undef = .agg #[.int .i64 b0, .bool b1, .int .i64 b2, .string b3, .slice b4 b4l b4c, .slice b5 b5l b5c] := hdep { on := 9, ground := .data } (by simp) rfl
                clear hdep hA
                go_simp
                exact hK _ _ ((Below.refl _ _).alloc (Nat.le_refl _) _) ⟨wb.heap.size, _, rfl, two_values (L1.out.later (bstep HBV.out hB HBV.out.size)) (L2.out.later (bstep HBV.out hB HBV.out.size))⟩
              · simp at ho
                subst ho
                obtain ⟨sby10, cly10, y10, hSy10⟩ := hdep { on := 10, ground := .data } (by simp) rfl
                have y10 : ac.tmps[113]?.getD undef = .slice (some ⟨sby10, 0, none⟩) 2 2 := y10
                clear hdep hA
                go_simp
                refine (CLS.out wb sby10 cly10 (bstep HBV.out hB HBV.out.size) hSy10).mono ?_
                rintro e w5 ⟨ds, rfl, hL, hb5⟩
                obtain ⟨f0, f1, f2, f3, f4, f4l, f4c, f5, f5l, f5c, rfl⟩ := hL.six
                exact hK _ w5 hb5 ⟨f0, f1, f2, f3, f4, f4l, f4c, f5, f5l, f5c, rfl, hL.weaken fun _ _ => trivial⟩
              · simp at ho
                subst ho
                clear hdep hA
                go_simp
                exact hK _ wb (Below.refl _ _) rfl
              · simp at ho
                subst ho
                clear hdep hA
                go_simp
                exact hK _ wb (Below.refl _ _) rfl
              · simp at ho
                subst ho
                have y12 : ac.tmps[115]?.getD undef = .agg #[.int .i64 a0, .bool a1, .int .i64 a2, .string a3, .slice a4 a4l a4c, .slice a5 a5l a5c] := hdep { on := 12, ground := .data } (by simp) rfl
                have y13 : ac.tmps[116]?.getD undef = .agg #[.int .i64 b0, .bool b1, .int .i64 b2, .string b3, .slice b4 b4l b4c, .slice b5 b5l b5c] := hdep { on := 13, ground := .data } (by simp) rfl
                clear hdep hA
                go_simp
                exact hK _ _ ((Below.refl _ _).alloc (Nat.le_refl _) _) ⟨wb.heap.size, _, rfl, two_values (L1.out.later (bstep HBV.out hB HBV.out.size)) (L2.out.later (bstep HBV.out hB HBV.out.size))⟩
              · simp at ho
                subst ho
                obtain ⟨sby14, cly14, y14, hSy14⟩ := hdep { on := 14, ground := .data } (by simp) rfl
                have y14 : ac.tmps[117]?.getD undef = .slice (some ⟨sby14, 0, none⟩) 2 2 := y14
                clear hdep hA
                go_simp
                exact hK _ wb (Below.refl _ _) ⟨sby14, cly14, rfl, hSy14⟩
              · simp at ho
                subst ho
                obtain ⟨y11f0, y11f1, y11f2, y11f3, y11f4, y11f4l, y11f4c, y11f5, y11f5l, y11f5c, y11, hly11⟩ := hdep { on := 11, ground := .data } (by simp) rfl
                have y11 : ac.tmps[114]?.getD undef = .agg #[.int .i64 y11f0, .bool y11f1, .int .i64 y11f2, .string y11f3, .slice y11f4 y11f4l y11f4c, .slice y11f5 y11f5l y11f5c] := y11
                obtain ⟨sby15, cly15, y15, hSy15⟩ := hdep { on := 15, ground := .data } (by simp) rfl
                have y15 : ac.tmps[118]?.getD undef = .agg #[.int .i64 4, .bool false, .int .i64 0, .string ⟨#[]⟩, .slice (some ⟨sby15, 0, none⟩) 2 2, .slice none 0 0] := y15
                clear hdep hA
                go_simp
                have hsm := rSame_any hly11 (Lies.of_slices (k := 4) (n := 0) (b := false) (s := ⟨#[]⟩) (l := [t, u]) (m := []) (ma := none) (mc := 0) (cm := fun _ => #[]) wf4 wf0 empty_size hSy15 (empty_sliceP _ _) : Lies wb (fun _ => True) (T.listOf [t, u]) _) wb (Below.refl _ _)
                rw [show T.mk 4 false 0 ⟨#[]⟩ [t, u] [] = T.listOf [t, u] from rfl, T.same_self] at hsm
                refine hsm.mono ?_
                rintro e w5 ⟨rfl, hb5⟩
                exact hK _ w5 hb5 rfl
              · simp at ho
                subst ho
                have y7 : ac.tmps[110]?.getD undef = .bool true := hdep { on := 7, ground := .data } (by simp) rfl
                have y16 : ac.tmps[119]?.getD undef = .bool true := hdep { on := 16, ground := .data } (by simp) rfl
                clear hdep hA
                go_simp
                exact hK _ wb (Below.refl _ _) rfl
              · simp at ho
                subst ho
                have y17 : ac.tmps[120]?.getD undef = .bool true := hdep { on := 17, ground := .data } (by simp) rfl
                clear hdep hA
                go_simp
                exact hK _ wb (Below.refl _ _) rfl
            case s5 =>
              intro ac wn hA hB hU
              have hs : slots 19 (fun i => match i with | 0 => 103 | 1 => 104 | 2 => 105 | 3 => 106 | 4 => 107 | 5 => 108 | 6 => 109 | 7 => 110 | 8 => 111 | 9 => 112 | 10 => 113 | 11 => 114 | 12 => 115 | 13 => 116 | 14 => 117 | 15 => 118 | 16 => 119 | 17 => 120 | 18 => 8 | _ => 0) = [103, 104, 105, 106, 107, 108, 109, 110, 111, 112, 113, 114, 115, 116, 117, 118, 119, 120, 8] := by rfl
              rw [hs] at hA
              have hac := hA.act (fun t ht => by
                have h8 : t = 103 ∨ t = 104 ∨ t = 105 ∨ t = 106 ∨ t = 107 ∨ t = 108 ∨ t = 109 ∨ t = 110 ∨ t = 111 ∨ t = 112 ∨ t = 113 ∨ t = 114 ∨ t = 115 ∨ t = 116 ∨ t = 117 ∨ t = 118 ∨ t = 119 ∨ t = 120 ∨ t = 8 := by simpa using ht
                rcases h8 with rfl | rfl | rfl | rfl | rfl | rfl | rfl | rfl | rfl | rfl | rfl | rfl | rfl | rfl | rfl | rfl | rfl | rfl | rfl <;> exact Nat.lt_of_lt_of_le (by decide : _ < 121) (Nat.le_refl 121))
              rw [List.foldl_cons, List.foldl_cons, List.foldl_cons, List.foldl_cons, List.foldl_cons, List.foldl_cons, List.foldl_cons, List.foldl_cons, List.foldl_cons, List.foldl_cons, List.foldl_cons, List.foldl_cons, List.foldl_cons, List.foldl_cons, List.foldl_cons, List.foldl_cons, List.foldl_cons, List.foldl_cons, List.foldl_cons, List.foldl_nil] at hac
              have HB99 := Lib.hid (bstep HBV.out hB HBV.out.size)
              have z8 : sl ac 8 = .bool true := hU 18 (by omega)
              clear hU hB hs
              generalize sl ac 103 = x103 at hac z8
              generalize sl ac 104 = x104 at hac z8
              generalize sl ac 105 = x105 at hac z8
              generalize sl ac 106 = x106 at hac z8
              generalize sl ac 107 = x107 at hac z8
              generalize sl ac 108 = x108 at hac z8
              generalize sl ac 109 = x109 at hac z8
              generalize sl ac 110 = x110 at hac z8
              generalize sl ac 111 = x111 at hac z8
              generalize sl ac 112 = x112 at hac z8
              generalize sl ac 113 = x113 at hac z8
              generalize sl ac 114 = x114 at hac z8
              generalize sl ac 115 = x115 at hac z8
              generalize sl ac 116 = x116 at hac z8
              generalize sl ac 117 = x117 at hac z8
              generalize sl ac 118 = x118 at hac z8
              generalize sl ac 119 = x119 at hac z8
              generalize sl ac 120 = x120 at hac z8
              generalize sl ac 8 = x8 at hac z8
              clear hA
              subst z8
              subst hac
              simp only [Act.put, List.setIfInBounds_toArray, List.set_cons_succ, List.set_cons_zero]

              go_wp2_with fail
              go_ret
              exact ⟨rfl, bstep HV.out HB99.out HV.out.size⟩

end Go.Proofs.Ytfhonjjhladddaa
