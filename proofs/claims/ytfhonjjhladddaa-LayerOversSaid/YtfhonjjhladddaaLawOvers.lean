/-
  LayerOvers: the law's contract.
-/
import Derived.Test.YtfhonjjhladddaaRDiff
import Derived.Test.YtfhonjjhladddaaSpecsG

set_option linter.unusedVariables false
set_option linter.unusedSimpArgs false
namespace Go.Proofs.Ytfhonjjhladddaa
open Go.RowKit Go.Sort

theorem plain_same {t : T} (hp : t.parts = 0) : T.same (T.over T.nil t) t = plainT t := by
  cases h : plainT t with
  | true =>
    have e := eq_of_cmp t hp _ (over_parts t hp T.nil nil_parts) (by simpa [plainT] using h)
    exact T.same_of_eq e.symm
  | false =>
    refine T.same_of_ne fun e => ?_
    have : plainT t = true := by unfold plainT; rw [e, (T.ord t).refl]; rfl
    rw [h] at this; cases this
theorem plain_str {t : T} (hp : t.parts = 0) (h5 : t.kind = 5) (h : plainT t = true) : Str t := by
  have e := eq_of_cmp t hp _ (over_parts t hp T.nil nil_parts) (by simpa [plainT] using h)
  have := str_over t hp h5
  rwa [← e] at this
theorem good_size {t : T} (h : t.good = true) : t.size ≤ 6000 := T.light_size (by unfold T.good at h; simp at h; exact h.1)
theorem sum_le (n : Nat) : ∀ l : List T, (∀ x ∈ l, x.size ≤ n) → (l.map T.size).sum ≤ n * l.length
  | [], _ => by simp
  | x :: r, h => by
    have h1 := h x (by simp)
    have h2 := sum_le n r fun y hy => h y (by simp [hy])
    rw [List.map_cons, List.sum_cons, List.length_cons, Nat.mul_succ]
    omega

set_option maxRecDepth 100000 in
set_option maxHeartbeats 8000000 in
theorem layerOvers_any {w0 : World} {R1 R2 R3 : Nat → Prop} {t u : T} {cs ds : Array Value} {ts : List T} {sa : Option Addr} {sc : Nat} {cl : Nat → Array Value} (h1 : Lies w0 R1 t cs) (h2 : Lies w0 R2 u ds) (h3 : SliceV w0 R3 ts sa sc cl) (w : World) (hw : Below w0.heap.size w0 w) :
    Calls Try.prog 4 #[.agg cs, .agg ds, .slice sa ts.length sc] w fun e w' => e = .returned (.bool true) ∧ Below w.heap.size w w' := by
  obtain ⟨a0, a1, a2, a3, a4, a4l, a4c, a5, a5l, a5c, rfl⟩ := h1.six
  obtain ⟨b0, b1, b2, b3, b4, b4l, b4c, b5, b5l, b5c, rfl⟩ := h2.six
  have kt : t.kind = a0 := lies_kind h1
  have ku : u.kind = b0 := lies_kind h2
  have lle := h3.hdr.le
  have lbig := h3.hdr.big
  have bv2 := ((Below.refl w.heap.size w).alloc (Nat.le_refl _) (.cells #[.int .i64 a0, .bool a1, .int .i64 a2, .string a3, .slice a4 a4l a4c, .slice a5 a5l a5c] 25)).alloc (by simp) (.cells #[.int .i64 b0, .bool b1, .int .i64 b2, .string b3, .slice b4 b4l b4c, .slice b5 b5l b5c] 25)
  have HV := Lib.hid bv2
  have g2 := bstep hw bv2 hw.size
  have L1 := Lib.hid (h1.later g2)
  have L2 := Lib.hid (h2.later g2)
  have L3 : Hid (SliceV ((w.alloc (.cells #[.int .i64 a0, .bool a1, .int .i64 a2, .string a3, .slice a4 a4l a4c, .slice a5 a5l a5c] 25)).alloc (.cells #[.int .i64 b0, .bool b1, .int .i64 b2, .string b3, .slice b4 b4l b4c, .slice b5 b5l b5c] 25)) R3 ts sa sc cl) := h3.keepB fun b _ hb => g2.block b hb
  have X2 := box_two w (.int .i64 a0) (.bool a1) (.int .i64 a2) (.string a3) (.slice a4 a4l a4c) (.slice a5 a5l a5c) (.int .i64 b0) (.bool b1) (.int .i64 b2) (.string b3) (.slice b4 b4l b4c) (.slice b5 b5l b5c) 25 25
  have BA := Lib.hid X2.1
  have BB := Lib.hid X2.2
  have HSZ : Hid (((w.alloc (.cells #[.int .i64 a0, .bool a1, .int .i64 a2, .string a3, .slice a4 a4l a4c, .slice a5 a5l a5c] 25)).alloc (.cells #[.int .i64 b0, .bool b1, .int .i64 b2, .string b3, .slice b4 b4l b4c, .slice b5 b5l b5c] 25)).heap.size = w.heap.size + 2) := by show _ = _; simp
  clear bv2 g2 X2 h1 h2 h3
  go_enter Try.func4, Try.ntmps4
  go_upto_region 1 with fail
  generalize ((w.alloc (.cells #[.int .i64 a0, .bool a1, .int .i64 a2, .string a3, .slice a4 a4l a4c, .slice a5 a5l a5c] 25)).alloc (.cells #[.int .i64 b0, .bool b1, .int .i64 b2, .string b3, .slice b4 b4l b4c, .slice b5 b5l b5c] 25)) = v at *
  have HAL := Lib.hid ((Below.refl v.heap.size v).alloc (Nat.le_refl _) (.cells #[.int .i64 a0, .bool a1, .int .i64 a2, .string a3, .slice a4 a4l a4c, .slice a5 a5l a5c, .int .i64 b0, .bool b1, .int .i64 b2, .string b3, .slice b4 b4l b4c, .slice b5 b5l b5c] 25))
  have HR := Lib.hid (right_any (two_values L1.out L2.out) _ (Below.refl _ _))
  obtain ⟨xa0, xa1, xa2, xa3, xa4, xa5⟩ := BA.out
  obtain ⟨xb0, xb1, xb2, xb3, xb4, xb5⟩ := BB.out
  go_wp2_with fail
  refine HR.out.mono ?_
  rintro e w5 ⟨rfl, hb5⟩
  have HB5 := Lib.hid (bstep HAL.out hb5 HAL.out.size)
  clear hb5 HAL HR xa0 xa1 xa2 xa3 xa4 xa5 xb0 xb1 xb2 xb3 xb4 xb5
  cases hg : [t, u].all T.good with
  | false =>
    go_wp2_with fail
    refine (awake3_any _).mono ?_
    rintro e w9 ⟨rfl, hb9⟩
    go_wp2_with fail
    go_ret
    exact ⟨rfl, bstep HV.out (bstep HB5.out hb9 HB5.out.size) HV.out.size⟩

  | true =>
    by_cases hl8 : ts.length ≤ 8
    case neg =>
      have f3 : ((ts.length : Int) > 8) := by omega
      have f4 : 8 < ts.length := by omega
      go_wp2_with fail
      refine (awake3_any _).mono ?_
      rintro e w9 ⟨rfl, hb9⟩
      go_wp2_with fail
      go_ret
      exact ⟨rfl, bstep HV.out (bstep HB5.out hb9 HB5.out.size) HV.out.size⟩

    have f3 : ¬ ((ts.length : Int) > 8) := by omega
    have f4 : ¬ 8 < ts.length := by omega
    have hgg : t.good = true ∧ u.good = true := by simpa using hg
    clear hg
    go_wp2_with fail
    refine (right_any (L3.out.keepB fun b _ hb => HB5.out.block b hb) w5 (Below.refl _ _)).mono ?_
    rintro e w6 ⟨rfl, hb6⟩
    have HB6 := Lib.hid (bstep HB5.out hb6 HB5.out.size)
    clear hb6 HB5
    cases hg : ts.all T.good with
    | false =>
      go_wp2_with fail
      refine (awake3_any _).mono ?_
      rintro e w9 ⟨rfl, hb9⟩
      go_wp2_with fail
      go_ret
      exact ⟨rfl, bstep HV.out (bstep HB6.out hb9 HB6.out.size) HV.out.size⟩

    | true =>
      have hz1 := good_size hgg.1
      have hz2 := good_size hgg.2
      have htz : t.size ≤ 1000000 := by omega
      have huz : u.size ≤ 1000000 := by omega
      have hall : ∀ x ∈ ts, x.good = true := List.all_eq_true.1 hg
      have hzt : ∀ i (hi : i < ts.length), ts[i].size ≤ 1000000 := fun i hi => by have := good_size (hall ts[i] (List.getElem_mem hi)); omega
      have hzs : ∀ j, j < ts.length → (layT ts j).size ≤ 1000000 := fun j _ => by
        have h1 := layT_sz ts j
        have h2 := sum_le 6000 ts fun x hx => good_size (hall x hx)
        have h3 : 6000 * ts.length ≤ 6000 * 8 := Nat.mul_le_mul_left _ hl8
        omega
      have GP : Hid (t.parts = 0 ∧ u.parts = 0) := ⟨good_parts hgg.1, good_parts hgg.2⟩
      have SZ : Hid (t.size ≤ 6000 ∧ u.size ≤ 6000) := ⟨hz1, hz2⟩
      have COV : Hid (∀ wb, Below v.heap.size v wb → Calls Try.prog 18 #[.agg #[.int .i64 a0, .bool a1, .int .i64 a2, .string a3, .slice a4 a4l a4c, .slice a5 a5l a5c], .agg #[.int .i64 b0, .bool b1, .int .i64 b2, .string b3, .slice b4 b4l b4c, .slice b5 b5l b5c]] wb fun e w' => ∃ (f0 : Int) (f1 : Bool) (f2 : Int) (f3 : ByteArray) (f4 : Option Addr) (f4l f4c : Nat) (f5 : Option Addr) (f5l f5c : Nat), e = .returned (.agg #[.int .i64 f0, .bool f1, .int .i64 f2, .string f3, .slice f4 f4l f4c, .slice f5 f5l f5c]) ∧ Lies w' (fun _ => True) (T.over t u) #[.int .i64 f0, .bool f1, .int .i64 f2, .string f3, .slice f4 f4l f4c, .slice f5 f5l f5c] ∧ Below wb.heap.size wb w') := fun wb hb => by
        refine (over_any L1.out L2.out wb hb htz huz).mono ?_
        rintro e w' ⟨ds, rfl, hL, hb2⟩
        obtain ⟨f0, f1, f2, f3, f4, f4l, f4c, f5, f5l, f5c, rfl⟩ := hL.six
        exact ⟨f0, f1, f2, f3, f4, f4l, f4c, f5, f5l, f5c, rfl, hL.weaken fun _ _ => trivial, hb2⟩

      have CRO : Hid (∀ wb, Below v.heap.size v wb → Calls Try.prog 19 #[.agg #[.int .i64 a0, .bool a1, .int .i64 a2, .string a3, .slice a4 a4l a4c, .slice a5 a5l a5c], .agg #[.int .i64 b0, .bool b1, .int .i64 b2, .string b3, .slice b4 b4l b4c, .slice b5 b5l b5c]] wb fun e w' => ∃ (f0 : Int) (f1 : Bool) (f2 : Int) (f3 : ByteArray) (f4 : Option Addr) (f4l f4c : Nat) (f5 : Option Addr) (f5l f5c : Nat), e = .returned (.agg #[.int .i64 f0, .bool f1, .int .i64 f2, .string f3, .slice f4 f4l f4c, .slice f5 f5l f5c]) ∧ Lies w' (fun _ => True) (T.over t u) #[.int .i64 f0, .bool f1, .int .i64 f2, .string f3, .slice f4 f4l f4c, .slice f5 f5l f5c] ∧ Below wb.heap.size wb w') := fun wb hb => by
        refine (rOver_any L2.out L1.out wb hb htz huz).mono ?_
        rintro e w' ⟨ds, rfl, hL, hb2⟩
        obtain ⟨f0, f1, f2, f3, f4, f4l, f4c, f5, f5l, f5c, rfl⟩ := hL.six
        exact ⟨f0, f1, f2, f3, f4, f4l, f4c, f5, f5l, f5c, rfl, hL.weaken fun _ _ => trivial, hb2⟩

      have CAL : Hid (∀ wb, Below v.heap.size v wb → Calls Try.prog 20 #[.slice sa ts.length sc] wb fun e w' => ∃ (f0 : Int) (f1 : Bool) (f2 : Int) (f3 : ByteArray) (f4 : Option Addr) (f4l f4c : Nat) (f5 : Option Addr) (f5l f5c : Nat), e = .returned (.agg #[.int .i64 f0, .bool f1, .int .i64 f2, .string f3, .slice f4 f4l f4c, .slice f5 f5l f5c]) ∧ Lies w' (fun _ => True) (ts.foldl T.over T.none5) #[.int .i64 f0, .bool f1, .int .i64 f2, .string f3, .slice f4 f4l f4c, .slice f5 f5l f5c] ∧ Below wb.heap.size wb w') := fun wb hb => by
        refine (all_any L3.out wb hb hzs hzt).mono ?_
        rintro e w' ⟨ds, rfl, hL, hb2⟩
        obtain ⟨f0, f1, f2, f3, f4, f4l, f4c, f5, f5l, f5c, rfl⟩ := hL.six
        exact ⟨f0, f1, f2, f3, f4, f4l, f4c, f5, f5l, f5c, rfl, hL.weaken fun _ _ => trivial, hb2⟩

      have CRA : Hid (∀ wb, Below v.heap.size v wb → Calls Try.prog 21 #[.slice sa ts.length sc] wb fun e w' => ∃ (f0 : Int) (f1 : Bool) (f2 : Int) (f3 : ByteArray) (f4 : Option Addr) (f4l f4c : Nat) (f5 : Option Addr) (f5l f5c : Nat), e = .returned (.agg #[.int .i64 f0, .bool f1, .int .i64 f2, .string f3, .slice f4 f4l f4c, .slice f5 f5l f5c]) ∧ Lies w' (fun _ => True) (ts.foldl T.over T.none5) #[.int .i64 f0, .bool f1, .int .i64 f2, .string f3, .slice f4 f4l f4c, .slice f5 f5l f5c] ∧ Below wb.heap.size wb w') := fun wb hb => by
        refine (rAll_any L3.out wb hb hzs hzt).mono ?_
        rintro e w' ⟨ds, rfl, hL, hb2⟩
        obtain ⟨f0, f1, f2, f3, f4, f4l, f4c, f5, f5l, f5c, rfl⟩ := hL.six
        exact ⟨f0, f1, f2, f3, f4, f4l, f4c, f5, f5l, f5c, rfl, hL.weaken fun _ _ => trivial, hb2⟩

      have CST : Hid (∀ wb, Below v.heap.size v wb → Calls Try.prog 23 #[.agg #[.int .i64 a0, .bool a1, .int .i64 a2, .string a3, .slice a4 a4l a4c, .slice a5 a5l a5c]] wb fun e w' => ∃ (f0 : Int) (f1 : Bool) (f2 : Int) (f3 : ByteArray) (f4 : Option Addr) (f4l f4c : Nat) (f5 : Option Addr) (f5l f5c : Nat), e = .returned (.agg #[.int .i64 f0, .bool f1, .int .i64 f2, .string f3, .slice f4 f4l f4c, .slice f5 f5l f5c]) ∧ Lies w' (fun _ => True) (T.over T.nil t) #[.int .i64 f0, .bool f1, .int .i64 f2, .string f3, .slice f4 f4l f4c, .slice f5 f5l f5c] ∧ Below wb.heap.size wb w') := fun wb hb => by
        refine (rStrip_any L1.out wb hb htz).mono ?_
        rintro e w' ⟨ds, rfl, hL, hb2⟩
        obtain ⟨f0, f1, f2, f3, f4, f4l, f4c, f5, f5l, f5c, rfl⟩ := hL.six
        exact ⟨f0, f1, f2, f3, f4, f4l, f4c, f5, f5l, f5c, rfl, hL.weaken fun _ _ => trivial, hb2⟩

      have CPL0 : Hid (∀ wb, Below v.heap.size v wb → Calls Try.prog 22 #[.agg #[.int .i64 a0, .bool a1, .int .i64 a2, .string a3, .slice a4 a4l a4c, .slice a5 a5l a5c]] wb fun e w' => e = .returned (.bool (plainT t)) ∧ Below wb.heap.size wb w') := fun wb hb => plain_any L1.out wb hb htz
      have CPM0 : Hid (∀ wb, Below v.heap.size v wb → Calls Try.prog 22 #[.agg #[.int .i64 b0, .bool b1, .int .i64 b2, .string b3, .slice b4 b4l b4c, .slice b5 b5l b5c]] wb fun e w' => e = .returned (.bool (plainT u)) ∧ Below wb.heap.size wb w') := fun wb hb => plain_any L2.out wb hb huz
      have AW : Hid (∀ wb, Below v.heap.size v wb → Calls Try.prog 17 #[] wb fun e w' => e = .returned (.bool true) ∧ Below wb.heap.size wb w') := fun wb _ => awake3_any wb
      obtain ⟨pa, hpa⟩ : ∃ p, p = plainT t := ⟨_, rfl⟩
      have CPL := CPL0
      rw [← hpa] at CPL
      have PBE : Hid (T.same (T.over T.nil t) t = pa) := (plain_same GP.out.1).trans hpa.symm
      obtain ⟨pb, hpb⟩ : ∃ p, p = plainT u := ⟨_, rfl⟩
      have CPM := CPM0
      rw [← hpb] at CPM
      have HPA := Lib.hid hpa
      have HPB := Lib.hid hpb
      have BA6 := Lib.hid (BA.out.later HB6.out)
      have BB6 := Lib.hid (BB.out.later HB6.out)
      have KT := Lib.hid kt
      have KU := Lib.hid ku
      clear CPL0 CPM0 hpa hpb hg hgg hz1 hz2 htz huz hall hzt hzs BA BB kt ku
      go_upto_region 3 with fail
      refine wp_region_specs3 w6 25 (fun i => match i with | 0 => 23 | 1 => 24 | 2 => 25 | 3 => 26 | 4 => 27 | 5 => 28 | 6 => 29 | 7 => 30 | 8 => 31 | 9 => 32 | 10 => 33 | 11 => 34 | 12 => 35 | 13 => 36 | 14 => 37 | 15 => 38 | 16 => 39 | 17 => 40 | 18 => 41 | 19 => 42 | 20 => 43 | 21 => 44 | 22 => 45 | 23 => 46 | 24 => 47 | _ => 0) (fun i x wx => match i with | 0 => x = .agg #[.int .i64 a0, .bool a1, .int .i64 a2, .string a3, .slice a4 a4l a4c, .slice a5 a5l a5c] | 1 => x = .agg #[.int .i64 b0, .bool b1, .int .i64 b2, .string b3, .slice b4 b4l b4c, .slice b5 b5l b5c] | 2 => ∃ (f0 : Int) (f1 : Bool) (f2 : Int) (f3 : ByteArray) (f4 : Option Addr) (f4l f4c : Nat) (f5 : Option Addr) (f5l f5c : Nat), x = .agg #[.int .i64 f0, .bool f1, .int .i64 f2, .string f3, .slice f4 f4l f4c, .slice f5 f5l f5c] ∧ Lies wx (fun _ => True) (T.over t u) #[.int .i64 f0, .bool f1, .int .i64 f2, .string f3, .slice f4 f4l f4c, .slice f5 f5l f5c] | 3 => x = .agg #[.int .i64 a0, .bool a1, .int .i64 a2, .string a3, .slice a4 a4l a4c, .slice a5 a5l a5c] | 4 => x = .agg #[.int .i64 b0, .bool b1, .int .i64 b2, .string b3, .slice b4 b4l b4c, .slice b5 b5l b5c] | 5 => ∃ (f0 : Int) (f1 : Bool) (f2 : Int) (f3 : ByteArray) (f4 : Option Addr) (f4l f4c : Nat) (f5 : Option Addr) (f5l f5c : Nat), x = .agg #[.int .i64 f0, .bool f1, .int .i64 f2, .string f3, .slice f4 f4l f4c, .slice f5 f5l f5c] ∧ Lies wx (fun _ => True) (T.over t u) #[.int .i64 f0, .bool f1, .int .i64 f2, .string f3, .slice f4 f4l f4c, .slice f5 f5l f5c] | 6 => x = .bool true | 7 => x = .bool false | 8 => x = .bool false | 9 => x = .slice sa ts.length sc | 10 => ∃ (f0 : Int) (f1 : Bool) (f2 : Int) (f3 : ByteArray) (f4 : Option Addr) (f4l f4c : Nat) (f5 : Option Addr) (f5l f5c : Nat), x = .agg #[.int .i64 f0, .bool f1, .int .i64 f2, .string f3, .slice f4 f4l f4c, .slice f5 f5l f5c] ∧ Lies wx (fun _ => True) (ts.foldl T.over T.none5) #[.int .i64 f0, .bool f1, .int .i64 f2, .string f3, .slice f4 f4l f4c, .slice f5 f5l f5c] | 11 => x = .slice sa ts.length sc | 12 => ∃ (f0 : Int) (f1 : Bool) (f2 : Int) (f3 : ByteArray) (f4 : Option Addr) (f4l f4c : Nat) (f5 : Option Addr) (f5l f5c : Nat), x = .agg #[.int .i64 f0, .bool f1, .int .i64 f2, .string f3, .slice f4 f4l f4c, .slice f5 f5l f5c] ∧ Lies wx (fun _ => True) (ts.foldl T.over T.none5) #[.int .i64 f0, .bool f1, .int .i64 f2, .string f3, .slice f4 f4l f4c, .slice f5 f5l f5c] | 13 => x = .bool true | 14 => x = .bool false | 15 => x = .bool false | 16 => x = .bool false | 17 => x = .agg #[.int .i64 a0, .bool a1, .int .i64 a2, .string a3, .slice a4 a4l a4c, .slice a5 a5l a5c] | 18 => x = .bool pa | 19 => x = .agg #[.int .i64 a0, .bool a1, .int .i64 a2, .string a3, .slice a4 a4l a4c, .slice a5 a5l a5c] | 20 => ∃ (f0 : Int) (f1 : Bool) (f2 : Int) (f3 : ByteArray) (f4 : Option Addr) (f4l f4c : Nat) (f5 : Option Addr) (f5l f5c : Nat), x = .agg #[.int .i64 f0, .bool f1, .int .i64 f2, .string f3, .slice f4 f4l f4c, .slice f5 f5l f5c] ∧ Lies wx (fun _ => True) (T.over T.nil t) #[.int .i64 f0, .bool f1, .int .i64 f2, .string f3, .slice f4 f4l f4c, .slice f5 f5l f5c] | 21 => x = .agg #[.int .i64 a0, .bool a1, .int .i64 a2, .string a3, .slice a4 a4l a4c, .slice a5 a5l a5c] | 22 => x = .bool pa | 23 => x = .bool false | 24 => x = .bool false | _ => True) (by kernel_rfl) (by kernel_rfl) ?s1 (Below.refl _ _) ?s2 ?s3 ?s4 ?s5
      case s1 => intro i hi; rcases (by omega : i = 0 ∨ i = 1 ∨ i = 2 ∨ i = 3 ∨ i = 4 ∨ i = 5 ∨ i = 6 ∨ i = 7 ∨ i = 8 ∨ i = 9 ∨ i = 10 ∨ i = 11 ∨ i = 12 ∨ i = 13 ∨ i = 14 ∨ i = 15 ∨ i = 16 ∨ i = 17 ∨ i = 18 ∨ i = 19 ∨ i = 20 ∨ i = 21 ∨ i = 22 ∨ i = 23 ∨ i = 24) with rfl | rfl | rfl | rfl | rfl | rfl | rfl | rfl | rfl | rfl | rfl | rfl | rfl | rfl | rfl | rfl | rfl | rfl | rfl | rfl | rfl | rfl | rfl | rfl | rfl <;> exact Nat.lt_of_lt_of_le (by decide : _ < 77) (Nat.le_refl 77)
      case s2 =>
        intro i x w1 w2 hb hU
        match i, hU with
        | 2, ⟨f0, f1, f2, f3, f4, f4l, f4c, f5, f5l, f5c, e, hl⟩ => exact ⟨f0, f1, f2, f3, f4, f4l, f4c, f5, f5l, f5c, e, hl.later hb⟩
        | 5, ⟨f0, f1, f2, f3, f4, f4l, f4c, f5, f5l, f5c, e, hl⟩ => exact ⟨f0, f1, f2, f3, f4, f4l, f4c, f5, f5l, f5c, e, hl.later hb⟩
        | 10, ⟨f0, f1, f2, f3, f4, f4l, f4c, f5, f5l, f5c, e, hl⟩ => exact ⟨f0, f1, f2, f3, f4, f4l, f4c, f5, f5l, f5c, e, hl.later hb⟩
        | 12, ⟨f0, f1, f2, f3, f4, f4l, f4c, f5, f5l, f5c, e, hl⟩ => exact ⟨f0, f1, f2, f3, f4, f4l, f4c, f5, f5l, f5c, e, hl.later hb⟩
        | 20, ⟨f0, f1, f2, f3, f4, f4l, f4c, f5, f5l, f5c, e, hl⟩ => exact ⟨f0, f1, f2, f3, f4, f4l, f4c, f5, f5l, f5c, e, hl.later hb⟩
        | 0, h | 1, h | 3, h | 4, h | 6, h | 7, h | 8, h | 9, h | 11, h | 13, h | 14, h | 15, h | 16, h | 17, h | 18, h | 19, h | 21, h | 22, h | 23, h | 24, h => exact h
        | (n + 25), _ => trivial
      case s3 =>
        intro i o g b ho hg x w hu
        have hi : i < 25 := (Array.getElem?_eq_some_iff.1 ho).1
        rcases (by omega : i = 0 ∨ i = 1 ∨ i = 2 ∨ i = 3 ∨ i = 4 ∨ i = 5 ∨ i = 6 ∨ i = 7 ∨ i = 8 ∨ i = 9 ∨ i = 10 ∨ i = 11 ∨ i = 12 ∨ i = 13 ∨ i = 14 ∨ i = 15 ∨ i = 16 ∨ i = 17 ∨ i = 18 ∨ i = 19 ∨ i = 20 ∨ i = 21 ∨ i = 22 ∨ i = 23 ∨ i = 24) with rfl | rfl | rfl | rfl | rfl | rfl | rfl | rfl | rfl | rfl | rfl | rfl | rfl | rfl | rfl | rfl | rfl | rfl | rfl | rfl | rfl | rfl | rfl | rfl | rfl
        · simp at ho; subst ho; cases hg
        · simp at ho; subst ho; cases hg
        · simp at ho; subst ho; cases hg
        · simp at ho; subst ho; cases hg
        · simp at ho; subst ho; cases hg
        · simp at ho; subst ho; cases hg
        · simp at ho; subst ho; cases hg
        · simp at ho; subst ho; cases hg
        · simp at ho; subst ho; cases hg
        · simp at ho; subst ho; cases hg; exact hu
        · simp at ho; subst ho; cases hg; exact hu
        · simp at ho; subst ho; cases hg; exact hu
        · simp at ho; subst ho; cases hg; exact hu
        · simp at ho; subst ho; cases hg; exact hu
        · simp at ho; subst ho; cases hg; exact hu
        · simp at ho; subst ho; cases hg
        · simp at ho; subst ho; cases hg
        · simp at ho; subst ho; cases hg; exact hu
        · simp at ho; subst ho; cases hg; exact hu
        · simp at ho; subst ho; cases hg; exact hu
        · simp at ho; subst ho; cases hg; exact hu
        · simp at ho; subst ho; cases hg; exact hu
        · simp at ho; subst ho; cases hg; exact hu
        · simp at ho; subst ho; cases hg; exact hu
        · simp at ho; subst ho; cases hg
      case s4 =>
        intro i o ac wb K' ho hi hA hB hdep hK
        have sv3 : ac.tmps[3]?.getD undef = .pointer (some ⟨w.heap.size, 0, none⟩) := hA.sl (t := 3) (by decide)
        have sv4 : ac.tmps[4]?.getD undef = .pointer (some ⟨w.heap.size + 1, 0, none⟩) := hA.sl (t := 4) (by decide)
        have sv2 : ac.tmps[2]?.getD undef = .slice sa ts.length sc := hA.sl (t := 2) (by decide)
        obtain ⟨xa0, xa1, xa2, xa3, xa4, xa5⟩ := BA6.out.later hB
        obtain ⟨xb0, xb1, xb2, xb3, xb4, xb5⟩ := BB6.out.later hB
        rcases (by omega : i = 0 ∨ i = 1 ∨ i = 2 ∨ i = 3 ∨ i = 4 ∨ i = 5 ∨ i = 6 ∨ i = 7 ∨ i = 8 ∨ i = 9 ∨ i = 10 ∨ i = 11 ∨ i = 12 ∨ i = 13 ∨ i = 14 ∨ i = 15 ∨ i = 16 ∨ i = 17 ∨ i = 18 ∨ i = 19 ∨ i = 20 ∨ i = 21 ∨ i = 22 ∨ i = 23 ∨ i = 24) with rfl | rfl | rfl | rfl | rfl | rfl | rfl | rfl | rfl | rfl | rfl | rfl | rfl | rfl | rfl | rfl | rfl | rfl | rfl | rfl | rfl | rfl | rfl | rfl | rfl
        · simp at ho
          subst ho
          clear hdep hA
          go_simp
          exact hK _ wb (Below.refl _ _) rfl
        · simp at ho
          subst ho
          clear hdep hA
          go_simp
          exact hK _ wb (Below.refl _ _) rfl
        · simp at ho
          subst ho
          have y0 : ac.tmps[23]?.getD undef = .agg #[.int .i64 a0, .bool a1, .int .i64 a2, .string a3, .slice a4 a4l a4c, .slice a5 a5l a5c] := hdep { on := 0, ground := .data } (by simp) rfl
          have y1 : ac.tmps[24]?.getD undef = .agg #[.int .i64 b0, .bool b1, .int .i64 b2, .string b3, .slice b4 b4l b4c, .slice b5 b5l b5c] := hdep { on := 1, ground := .data } (by simp) rfl
          clear hdep hA
          go_simp
          refine (COV.out wb (bstep HB6.out hB HB6.out.size)).mono ?_
          rintro e w5 ⟨f0, f1, f2, f3, f4, f4l, f4c, f5, f5l, f5c, rfl, hl, hb5⟩
          exact hK _ w5 hb5 ⟨f0, f1, f2, f3, f4, f4l, f4c, f5, f5l, f5c, rfl, hl⟩
        · simp at ho
          subst ho
          clear hdep hA
          go_simp
          exact hK _ wb (Below.refl _ _) rfl
        · simp at ho
          subst ho
          clear hdep hA
          go_simp
          exact hK _ wb (Below.refl _ _) rfl
        · simp at ho
          subst ho
          have y3 : ac.tmps[26]?.getD undef = .agg #[.int .i64 a0, .bool a1, .int .i64 a2, .string a3, .slice a4 a4l a4c, .slice a5 a5l a5c] := hdep { on := 3, ground := .data } (by simp) rfl
          have y4 : ac.tmps[27]?.getD undef = .agg #[.int .i64 b0, .bool b1, .int .i64 b2, .string b3, .slice b4 b4l b4c, .slice b5 b5l b5c] := hdep { on := 4, ground := .data } (by simp) rfl
          clear hdep hA
          go_simp
          refine (CRO.out wb (bstep HB6.out hB HB6.out.size)).mono ?_
          rintro e w5 ⟨f0, f1, f2, f3, f4, f4l, f4c, f5, f5l, f5c, rfl, hl, hb5⟩
          exact hK _ w5 hb5 ⟨f0, f1, f2, f3, f4, f4l, f4c, f5, f5l, f5c, rfl, hl⟩
        · simp at ho
          subst ho
          obtain ⟨y2f0, y2f1, y2f2, y2f3, y2f4, y2f4l, y2f4c, y2f5, y2f5l, y2f5c, y2, hly2⟩ := hdep { on := 2, ground := .data } (by simp) rfl
          have y2 : ac.tmps[25]?.getD undef = .agg #[.int .i64 y2f0, .bool y2f1, .int .i64 y2f2, .string y2f3, .slice y2f4 y2f4l y2f4c, .slice y2f5 y2f5l y2f5c] := y2
          obtain ⟨y5f0, y5f1, y5f2, y5f3, y5f4, y5f4l, y5f4c, y5f5, y5f5l, y5f5c, y5, hly5⟩ := hdep { on := 5, ground := .data } (by simp) rfl
          have y5 : ac.tmps[28]?.getD undef = .agg #[.int .i64 y5f0, .bool y5f1, .int .i64 y5f2, .string y5f3, .slice y5f4 y5f4l y5f4c, .slice y5f5 y5f5l y5f5c] := y5
          clear hdep hA
          go_simp
          have hsm := rSame_any hly2 hly5 wb (Below.refl _ _)
          rw [T.same_self] at hsm
          refine hsm.mono ?_
          rintro e w5 ⟨rfl, hb5⟩
          exact hK _ w5 hb5 rfl
        · simp at ho
          subst ho
          have y6 : ac.tmps[29]?.getD undef = .bool true := hdep { on := 6, ground := .data } (by simp) rfl
          clear hdep hA
          go_simp
          exact hK _ wb (Below.refl _ _) rfl
        · simp at ho
          subst ho
          have y7 : ac.tmps[30]?.getD undef = .bool false := hdep { on := 7, ground := .data } (by simp) rfl
          clear hdep hA
          go_simp
          exact hK _ wb (Below.refl _ _) rfl
        · simp at ho
          subst ho
          clear hdep hA
          go_simp
          exact hK _ wb (Below.refl _ _) rfl
        · simp at ho
          subst ho
          have y9 : ac.tmps[32]?.getD undef = .slice sa ts.length sc := hdep { on := 9, ground := .data } (by simp) rfl
          clear hdep hA
          go_simp
          refine (CAL.out wb (bstep HB6.out hB HB6.out.size)).mono ?_
          rintro e w5 ⟨f0, f1, f2, f3, f4, f4l, f4c, f5, f5l, f5c, rfl, hl, hb5⟩
          exact hK _ w5 hb5 ⟨f0, f1, f2, f3, f4, f4l, f4c, f5, f5l, f5c, rfl, hl⟩
        · simp at ho
          subst ho
          clear hdep hA
          go_simp
          exact hK _ wb (Below.refl _ _) rfl
        · simp at ho
          subst ho
          have y11 : ac.tmps[34]?.getD undef = .slice sa ts.length sc := hdep { on := 11, ground := .data } (by simp) rfl
          clear hdep hA
          go_simp
          refine (CRA.out wb (bstep HB6.out hB HB6.out.size)).mono ?_
          rintro e w5 ⟨f0, f1, f2, f3, f4, f4l, f4c, f5, f5l, f5c, rfl, hl, hb5⟩
          exact hK _ w5 hb5 ⟨f0, f1, f2, f3, f4, f4l, f4c, f5, f5l, f5c, rfl, hl⟩
        · simp at ho
          subst ho
          obtain ⟨y10f0, y10f1, y10f2, y10f3, y10f4, y10f4l, y10f4c, y10f5, y10f5l, y10f5c, y10, hly10⟩ := hdep { on := 10, ground := .data } (by simp) rfl
          have y10 : ac.tmps[33]?.getD undef = .agg #[.int .i64 y10f0, .bool y10f1, .int .i64 y10f2, .string y10f3, .slice y10f4 y10f4l y10f4c, .slice y10f5 y10f5l y10f5c] := y10
          obtain ⟨y12f0, y12f1, y12f2, y12f3, y12f4, y12f4l, y12f4c, y12f5, y12f5l, y12f5c, y12, hly12⟩ := hdep { on := 12, ground := .data } (by simp) rfl
          have y12 : ac.tmps[35]?.getD undef = .agg #[.int .i64 y12f0, .bool y12f1, .int .i64 y12f2, .string y12f3, .slice y12f4 y12f4l y12f4c, .slice y12f5 y12f5l y12f5c] := y12
          clear hdep hA
          go_simp
          have hsm := rSame_any hly10 hly12 wb (Below.refl _ _)
          rw [T.same_self] at hsm
          refine hsm.mono ?_
          rintro e w5 ⟨rfl, hb5⟩
          exact hK _ w5 hb5 rfl
        · simp at ho
          subst ho
          have y13 : ac.tmps[36]?.getD undef = .bool true := hdep { on := 13, ground := .data } (by simp) rfl
          clear hdep hA
          go_simp
          exact hK _ wb (Below.refl _ _) rfl
        · simp at ho
          subst ho
          have y8 : ac.tmps[31]?.getD undef = .bool false := hdep { on := 8, ground := .data } (by simp) rfl
          have y14 : ac.tmps[37]?.getD undef = .bool false := hdep { on := 14, ground := .data } (by simp) rfl
          clear hdep hA
          go_simp
          exact hK _ wb (Below.refl _ _) rfl
        · simp at ho
          subst ho
          have y15 : ac.tmps[38]?.getD undef = .bool false := hdep { on := 15, ground := .data } (by simp) rfl
          clear hdep hA
          go_simp
          exact hK _ wb (Below.refl _ _) rfl
        · simp at ho
          subst ho
          clear hdep hA
          go_simp
          exact hK _ wb (Below.refl _ _) rfl
        · simp at ho
          subst ho
          have y17 : ac.tmps[40]?.getD undef = .agg #[.int .i64 a0, .bool a1, .int .i64 a2, .string a3, .slice a4 a4l a4c, .slice a5 a5l a5c] := hdep { on := 17, ground := .data } (by simp) rfl
          clear hdep hA
          go_simp
          refine (CPL.out wb (bstep HB6.out hB HB6.out.size)).mono ?_
          rintro e w5 ⟨rfl, hb5⟩
          exact hK _ w5 hb5 rfl
        · simp at ho
          subst ho
          clear hdep hA
          go_simp
          exact hK _ wb (Below.refl _ _) rfl
        · simp at ho
          subst ho
          have y19 : ac.tmps[42]?.getD undef = .agg #[.int .i64 a0, .bool a1, .int .i64 a2, .string a3, .slice a4 a4l a4c, .slice a5 a5l a5c] := hdep { on := 19, ground := .data } (by simp) rfl
          clear hdep hA
          go_simp
          refine (CST.out wb (bstep HB6.out hB HB6.out.size)).mono ?_
          rintro e w5 ⟨f0, f1, f2, f3, f4, f4l, f4c, f5, f5l, f5c, rfl, hl, hb5⟩
          exact hK _ w5 hb5 ⟨f0, f1, f2, f3, f4, f4l, f4c, f5, f5l, f5c, rfl, hl⟩
        · simp at ho
          subst ho
          clear hdep hA
          go_simp
          exact hK _ wb (Below.refl _ _) rfl
        · simp at ho
          subst ho
          obtain ⟨y20f0, y20f1, y20f2, y20f3, y20f4, y20f4l, y20f4c, y20f5, y20f5l, y20f5c, y20, hly20⟩ := hdep { on := 20, ground := .data } (by simp) rfl
          have y20 : ac.tmps[43]?.getD undef = .agg #[.int .i64 y20f0, .bool y20f1, .int .i64 y20f2, .string y20f3, .slice y20f4 y20f4l y20f4c, .slice y20f5 y20f5l y20f5c] := y20
          have y21 : ac.tmps[44]?.getD undef = .agg #[.int .i64 a0, .bool a1, .int .i64 a2, .string a3, .slice a4 a4l a4c, .slice a5 a5l a5c] := hdep { on := 21, ground := .data } (by simp) rfl
          clear hdep hA
          go_simp
          have hsm := rSame_any hly20 (L1.out.later (bstep HB6.out hB HB6.out.size)) wb (Below.refl _ _)
          rw [PBE.out] at hsm
          refine hsm.mono ?_
          rintro e w5 ⟨rfl, hb5⟩
          exact hK _ w5 hb5 rfl
        · simp at ho
          subst ho
          have y18 : ac.tmps[41]?.getD undef = .bool pa := hdep { on := 18, ground := .data } (by simp) rfl
          have y22 : ac.tmps[45]?.getD undef = .bool pa := hdep { on := 22, ground := .data } (by simp) rfl
          clear hdep hA
          go_simp
          exact hK _ wb (Below.refl _ _) (by cases pa <;> rfl)
        · simp at ho
          subst ho
          have y16 : ac.tmps[39]?.getD undef = .bool false := hdep { on := 16, ground := .data } (by simp) rfl
          have y23 : ac.tmps[46]?.getD undef = .bool false := hdep { on := 23, ground := .data } (by simp) rfl
          clear hdep hA
          go_simp
          exact hK _ wb (Below.refl _ _) rfl
      case s5 =>
        intro ac wn hA hB hU
        have hs : slots 25 (fun i => match i with | 0 => 23 | 1 => 24 | 2 => 25 | 3 => 26 | 4 => 27 | 5 => 28 | 6 => 29 | 7 => 30 | 8 => 31 | 9 => 32 | 10 => 33 | 11 => 34 | 12 => 35 | 13 => 36 | 14 => 37 | 15 => 38 | 16 => 39 | 17 => 40 | 18 => 41 | 19 => 42 | 20 => 43 | 21 => 44 | 22 => 45 | 23 => 46 | 24 => 47 | _ => 0) = [23, 24, 25, 26, 27, 28, 29, 30, 31, 32, 33, 34, 35, 36, 37, 38, 39, 40, 41, 42, 43, 44, 45, 46, 47] := by rfl
        rw [hs] at hA
        have hac := hA.act (fun t ht => by
          have h8 : t = 23 ∨ t = 24 ∨ t = 25 ∨ t = 26 ∨ t = 27 ∨ t = 28 ∨ t = 29 ∨ t = 30 ∨ t = 31 ∨ t = 32 ∨ t = 33 ∨ t = 34 ∨ t = 35 ∨ t = 36 ∨ t = 37 ∨ t = 38 ∨ t = 39 ∨ t = 40 ∨ t = 41 ∨ t = 42 ∨ t = 43 ∨ t = 44 ∨ t = 45 ∨ t = 46 ∨ t = 47 := by simpa using ht
          rcases h8 with rfl | rfl | rfl | rfl | rfl | rfl | rfl | rfl | rfl | rfl | rfl | rfl | rfl | rfl | rfl | rfl | rfl | rfl | rfl | rfl | rfl | rfl | rfl | rfl | rfl <;> exact Nat.lt_of_lt_of_le (by decide : _ < 77) (Nat.le_refl 77))
        rw [List.foldl_cons, List.foldl_cons, List.foldl_cons, List.foldl_cons, List.foldl_cons, List.foldl_cons, List.foldl_cons, List.foldl_cons, List.foldl_cons, List.foldl_cons, List.foldl_cons, List.foldl_cons, List.foldl_cons, List.foldl_cons, List.foldl_cons, List.foldl_cons, List.foldl_cons, List.foldl_cons, List.foldl_cons, List.foldl_cons, List.foldl_cons, List.foldl_cons, List.foldl_cons, List.foldl_cons, List.foldl_cons, List.foldl_nil] at hac

        have BA7 := Lib.hid (BA6.out.later hB)
        have BB7 := Lib.hid (BB6.out.later hB)
        have HB7 := Lib.hid (bstep HB6.out hB HB6.out.size)
        have z47 : sl ac 47 = .bool false := hU 24 (by omega)
        clear hU hB hs
        generalize sl ac 23 = x23 at hac z47
        generalize sl ac 24 = x24 at hac z47
        generalize sl ac 25 = x25 at hac z47
        generalize sl ac 26 = x26 at hac z47
        generalize sl ac 27 = x27 at hac z47
        generalize sl ac 28 = x28 at hac z47
        generalize sl ac 29 = x29 at hac z47
        generalize sl ac 30 = x30 at hac z47
        generalize sl ac 31 = x31 at hac z47
        generalize sl ac 32 = x32 at hac z47
        generalize sl ac 33 = x33 at hac z47
        generalize sl ac 34 = x34 at hac z47
        generalize sl ac 35 = x35 at hac z47
        generalize sl ac 36 = x36 at hac z47
        generalize sl ac 37 = x37 at hac z47
        generalize sl ac 38 = x38 at hac z47
        generalize sl ac 39 = x39 at hac z47
        generalize sl ac 40 = x40 at hac z47
        generalize sl ac 41 = x41 at hac z47
        generalize sl ac 42 = x42 at hac z47
        generalize sl ac 43 = x43 at hac z47
        generalize sl ac 44 = x44 at hac z47
        generalize sl ac 45 = x45 at hac z47
        generalize sl ac 46 = x46 at hac z47
        generalize sl ac 47 = x47 at hac z47
        clear hA
        subst z47
        subst hac
        simp only [Act.put, List.setIfInBounds_toArray, List.set_cons_succ, List.set_cons_zero]

        generalize hwn : wn = w7 at *
        clear hwn BA6 BB6 COV CRO CAL CRA CST PBE
        have BA6 := BA7
        have BB6 := BB7
        clear BA7 BB7
        have xa0 := BA6.out.1
        have xb0 := BB6.out.1
        by_cases h5 : a0 = 5
        case neg =>
          have f1 : (a0 != 5) = true := by simp [h5]
          go_wp2_with fail
          refine (awake3_any _).mono ?_
          rintro e w9 ⟨rfl, hb9⟩
          go_wp2_with fail
          go_ret
          exact ⟨rfl, bstep HV.out (bstep HB7.out hb9 HB7.out.size) HV.out.size⟩

        subst h5
        by_cases h6 : b0 = 5
        case neg =>
          have f2 : (b0 != 5) = true := by simp [h6]
          go_wp2_with fail
          refine (awake3_any _).mono ?_
          rintro e w9 ⟨rfl, hb9⟩
          go_wp2_with fail
          go_ret
          exact ⟨rfl, bstep HV.out (bstep HB7.out hb9 HB7.out.size) HV.out.size⟩

        subst h6
        obtain ⟨xa0, xa1, xa2, xa3, xa4, xa5⟩ := BA6.out
        go_wp2_with fail
        refine (CPL.out w7 HB7.out).mono ?_
        rintro e w8 ⟨rfl, hb8⟩
        have HB8 := Lib.hid (bstep HB7.out hb8 HB7.out.size)
        have BA8 := Lib.hid (BA6.out.later hb8)
        have BB8 := Lib.hid (BB6.out.later hb8)
        clear hb8 HB7 xa0 xa1 xa2 xa3 xa4 xa5 xb0 BA6 BB6
        cases pa with
        | false =>
          go_wp2_with fail
          refine (awake3_any _).mono ?_
          rintro e w9 ⟨rfl, hb9⟩
          go_wp2_with fail
          go_ret
          exact ⟨rfl, bstep HV.out (bstep HB8.out hb9 HB8.out.size) HV.out.size⟩

        | true =>
          obtain ⟨xb0, xb1, xb2, xb3, xb4, xb5⟩ := BB8.out
          go_wp2_with fail
          refine (CPM.out w8 HB8.out).mono ?_
          rintro e w9 ⟨rfl, hb9⟩
          have HB9 := Lib.hid (bstep HB8.out hb9 HB8.out.size)
          have BA6 := Lib.hid (BA8.out.later hb9)
          have BB6 := Lib.hid (BB8.out.later hb9)
          clear hb9 HB8 xb0 xb1 xb2 xb3 xb4 xb5 BA8 BB8
          cases pb with
          | false =>
            go_wp2_with fail
            refine (awake3_any _).mono ?_
            rintro e w10 ⟨rfl, hb10⟩
            go_wp2_with fail
            go_ret
            exact ⟨rfl, bstep HV.out (bstep HB9.out hb10 HB9.out.size) HV.out.size⟩

          | true =>
            have hst := plain_str GP.out.1 KT.out HPA.out.symm
            have hsu := plain_str GP.out.2 KU.out HPB.out.symm
            have hz1 := SZ.out.1
            have hz2 := SZ.out.2
            have CDI : Hid (∀ wb, Below v.heap.size v wb → Calls Try.prog 24 #[.agg #[.int .i64 5, .bool a1, .int .i64 a2, .string a3, .slice a4 a4l a4c, .slice a5 a5l a5c], .agg #[.int .i64 5, .bool b1, .int .i64 b2, .string b3, .slice b4 b4l b4c, .slice b5 b5l b5c]] wb fun e w' => ∃ (f0 : Int) (f1 : Bool) (f2 : Int) (f3 : ByteArray) (f4 : Option Addr) (f4l f4c : Nat) (f5 : Option Addr) (f5l f5c : Nat), e = .returned (.agg #[.int .i64 f0, .bool f1, .int .i64 f2, .string f3, .slice f4 f4l f4c, .slice f5 f5l f5c]) ∧ Lies w' (fun _ => True) (T.diff t u) #[.int .i64 f0, .bool f1, .int .i64 f2, .string f3, .slice f4 f4l f4c, .slice f5 f5l f5c] ∧ Below wb.heap.size wb w') := fun wb hb => by
              refine (diff_any L2.out L1.out wb hb (by omega) (by omega)).mono ?_
              rintro e w' ⟨ds, rfl, hL, hb2⟩
              obtain ⟨f0, f1, f2, f3, f4, f4l, f4c, f5, f5l, f5c, rfl⟩ := hL.six
              exact ⟨f0, f1, f2, f3, f4, f4l, f4c, f5, f5l, f5c, rfl, hL.weaken fun _ _ => trivial, hb2⟩

            have CRD : Hid (∀ wb, Below v.heap.size v wb → Calls Try.prog 25 #[.agg #[.int .i64 5, .bool a1, .int .i64 a2, .string a3, .slice a4 a4l a4c, .slice a5 a5l a5c], .agg #[.int .i64 5, .bool b1, .int .i64 b2, .string b3, .slice b4 b4l b4c, .slice b5 b5l b5c]] wb fun e w' => ∃ (f0 : Int) (f1 : Bool) (f2 : Int) (f3 : ByteArray) (f4 : Option Addr) (f4l f4c : Nat) (f5 : Option Addr) (f5l f5c : Nat), e = .returned (.agg #[.int .i64 f0, .bool f1, .int .i64 f2, .string f3, .slice f4 f4l f4c, .slice f5 f5l f5c]) ∧ Lies w' (fun _ => True) (T.diff t u) #[.int .i64 f0, .bool f1, .int .i64 f2, .string f3, .slice f4 f4l f4c, .slice f5 f5l f5c] ∧ Below wb.heap.size wb w') := fun wb hb => by
              refine (rDiff_any L2.out (Below.refl _ _) L1.out wb hb hst hsu (by omega) (by omega)).mono ?_
              rintro e w' ⟨ds, rfl, hL, hb2⟩
              obtain ⟨f0, f1, f2, f3, f4, f4l, f4c, f5, f5l, f5c, rfl⟩ := hL.six
              exact ⟨f0, f1, f2, f3, f4, f4l, f4c, f5, f5l, f5c, rfl, hL.weaken fun _ _ => trivial, hb2⟩

            clear hst hsu hz1 hz2
            go_upto_region 7 with fail
            refine wp_region_specs3 w9 11 (fun i => match i with | 0 => 67 | 1 => 68 | 2 => 69 | 3 => 70 | 4 => 71 | 5 => 72 | 6 => 73 | 7 => 74 | 8 => 75 | 9 => 76 | 10 => 6 | _ => 0) (fun i x wx => match i with | 0 => x = .bool true | 1 => x = .bool true | 2 => x = .agg #[.int .i64 5, .bool a1, .int .i64 a2, .string a3, .slice a4 a4l a4c, .slice a5 a5l a5c] | 3 => x = .agg #[.int .i64 5, .bool b1, .int .i64 b2, .string b3, .slice b4 b4l b4c, .slice b5 b5l b5c] | 4 => ∃ (f0 : Int) (f1 : Bool) (f2 : Int) (f3 : ByteArray) (f4 : Option Addr) (f4l f4c : Nat) (f5 : Option Addr) (f5l f5c : Nat), x = .agg #[.int .i64 f0, .bool f1, .int .i64 f2, .string f3, .slice f4 f4l f4c, .slice f5 f5l f5c] ∧ Lies wx (fun _ => True) (T.diff t u) #[.int .i64 f0, .bool f1, .int .i64 f2, .string f3, .slice f4 f4l f4c, .slice f5 f5l f5c] | 5 => x = .agg #[.int .i64 5, .bool a1, .int .i64 a2, .string a3, .slice a4 a4l a4c, .slice a5 a5l a5c] | 6 => x = .agg #[.int .i64 5, .bool b1, .int .i64 b2, .string b3, .slice b4 b4l b4c, .slice b5 b5l b5c] | 7 => ∃ (f0 : Int) (f1 : Bool) (f2 : Int) (f3 : ByteArray) (f4 : Option Addr) (f4l f4c : Nat) (f5 : Option Addr) (f5l f5c : Nat), x = .agg #[.int .i64 f0, .bool f1, .int .i64 f2, .string f3, .slice f4 f4l f4c, .slice f5 f5l f5c] ∧ Lies wx (fun _ => True) (T.diff t u) #[.int .i64 f0, .bool f1, .int .i64 f2, .string f3, .slice f4 f4l f4c, .slice f5 f5l f5c] | 8 => x = .bool true | 9 => x = .bool true | 10 => x = .bool true | _ => True) (by kernel_rfl) (by kernel_rfl) ?s1 (Below.refl _ _) ?s2 ?s3 ?s4 ?s5
            case s1 => intro i hi; rcases (by omega : i = 0 ∨ i = 1 ∨ i = 2 ∨ i = 3 ∨ i = 4 ∨ i = 5 ∨ i = 6 ∨ i = 7 ∨ i = 8 ∨ i = 9 ∨ i = 10) with rfl | rfl | rfl | rfl | rfl | rfl | rfl | rfl | rfl | rfl | rfl <;> exact Nat.lt_of_lt_of_le (by decide : _ < 77) (Nat.le_refl 77)
            case s2 =>
              intro i x w1 w2 hb hU
              match i, hU with
              | 4, ⟨f0, f1, f2, f3, f4, f4l, f4c, f5, f5l, f5c, e, hl⟩ => exact ⟨f0, f1, f2, f3, f4, f4l, f4c, f5, f5l, f5c, e, hl.later hb⟩
              | 7, ⟨f0, f1, f2, f3, f4, f4l, f4c, f5, f5l, f5c, e, hl⟩ => exact ⟨f0, f1, f2, f3, f4, f4l, f4c, f5, f5l, f5c, e, hl.later hb⟩
              | 0, h | 1, h | 2, h | 3, h | 5, h | 6, h | 8, h | 9, h | 10, h => exact h
              | (n + 11), _ => trivial
            case s3 =>
              intro i o g b ho hg x w hu
              have hi : i < 11 := (Array.getElem?_eq_some_iff.1 ho).1
              rcases (by omega : i = 0 ∨ i = 1 ∨ i = 2 ∨ i = 3 ∨ i = 4 ∨ i = 5 ∨ i = 6 ∨ i = 7 ∨ i = 8 ∨ i = 9 ∨ i = 10) with rfl | rfl | rfl | rfl | rfl | rfl | rfl | rfl | rfl | rfl | rfl
              · simp at ho; subst ho; cases hg
              · simp at ho; subst ho; cases hg
              · simp at ho; subst ho; cases hg; exact hu
              · simp at ho; subst ho; cases hg; exact hu
              · simp at ho; subst ho; cases hg; exact hu
              · simp at ho; subst ho; cases hg; exact hu
              · simp at ho; subst ho; cases hg; exact hu
              · simp at ho; subst ho; cases hg; exact hu
              · simp at ho; subst ho; cases hg; exact hu
              · simp at ho; subst ho; cases hg
              · simp at ho; subst ho; cases hg
            case s4 =>
              intro i o ac wb K' ho hi hA hB hdep hK
              have sv3 : ac.tmps[3]?.getD undef = .pointer (some ⟨w.heap.size, 0, none⟩) := hA.sl (t := 3) (by decide)
              have sv4 : ac.tmps[4]?.getD undef = .pointer (some ⟨w.heap.size + 1, 0, none⟩) := hA.sl (t := 4) (by decide)
              have sv2 : ac.tmps[2]?.getD undef = .slice sa ts.length sc := hA.sl (t := 2) (by decide)
              obtain ⟨xa0, xa1, xa2, xa3, xa4, xa5⟩ := BA6.out.later hB
              obtain ⟨xb0, xb1, xb2, xb3, xb4, xb5⟩ := BB6.out.later hB
              rcases (by omega : i = 0 ∨ i = 1 ∨ i = 2 ∨ i = 3 ∨ i = 4 ∨ i = 5 ∨ i = 6 ∨ i = 7 ∨ i = 8 ∨ i = 9 ∨ i = 10) with rfl | rfl | rfl | rfl | rfl | rfl | rfl | rfl | rfl | rfl | rfl
              · simp at ho
                subst ho
                clear hdep hA
                go_simp
                refine (AW.out wb (bstep HB9.out hB HB9.out.size)).mono ?_
                rintro e w5 ⟨rfl, hb5⟩
                exact hK _ w5 hb5 rfl
              · simp at ho
                subst ho
                have y0 : ac.tmps[67]?.getD undef = .bool true := hdep { on := 0, ground := .data } (by simp) rfl
                clear hdep hA
                go_simp
                exact hK _ wb (Below.refl _ _) rfl
              · simp at ho
                subst ho
                clear hdep hA
                go_simp
                exact hK _ wb (Below.refl _ _) rfl
              · simp at ho
                subst ho
                clear hdep hA
                go_simp
                exact hK _ wb (Below.refl _ _) rfl
              · simp at ho
                subst ho
                have y2 : ac.tmps[69]?.getD undef = .agg #[.int .i64 5, .bool a1, .int .i64 a2, .string a3, .slice a4 a4l a4c, .slice a5 a5l a5c] := hdep { on := 2, ground := .data } (by simp) rfl
                have y3 : ac.tmps[70]?.getD undef = .agg #[.int .i64 5, .bool b1, .int .i64 b2, .string b3, .slice b4 b4l b4c, .slice b5 b5l b5c] := hdep { on := 3, ground := .data } (by simp) rfl
                clear hdep hA
                go_simp
                refine (CDI.out wb (bstep HB9.out hB HB9.out.size)).mono ?_
                rintro e w5 ⟨f0, f1, f2, f3, f4, f4l, f4c, f5, f5l, f5c, rfl, hl, hb5⟩
                exact hK _ w5 hb5 ⟨f0, f1, f2, f3, f4, f4l, f4c, f5, f5l, f5c, rfl, hl⟩
              · simp at ho
                subst ho
                clear hdep hA
                go_simp
                exact hK _ wb (Below.refl _ _) rfl
              · simp at ho
                subst ho
                clear hdep hA
                go_simp
                exact hK _ wb (Below.refl _ _) rfl
              · simp at ho
                subst ho
                have y5 : ac.tmps[72]?.getD undef = .agg #[.int .i64 5, .bool a1, .int .i64 a2, .string a3, .slice a4 a4l a4c, .slice a5 a5l a5c] := hdep { on := 5, ground := .data } (by simp) rfl
                have y6 : ac.tmps[73]?.getD undef = .agg #[.int .i64 5, .bool b1, .int .i64 b2, .string b3, .slice b4 b4l b4c, .slice b5 b5l b5c] := hdep { on := 6, ground := .data } (by simp) rfl
                clear hdep hA
                go_simp
                refine (CRD.out wb (bstep HB9.out hB HB9.out.size)).mono ?_
                rintro e w5 ⟨f0, f1, f2, f3, f4, f4l, f4c, f5, f5l, f5c, rfl, hl, hb5⟩
                exact hK _ w5 hb5 ⟨f0, f1, f2, f3, f4, f4l, f4c, f5, f5l, f5c, rfl, hl⟩
              · simp at ho
                subst ho
                obtain ⟨y4f0, y4f1, y4f2, y4f3, y4f4, y4f4l, y4f4c, y4f5, y4f5l, y4f5c, y4, hly4⟩ := hdep { on := 4, ground := .data } (by simp) rfl
                have y4 : ac.tmps[71]?.getD undef = .agg #[.int .i64 y4f0, .bool y4f1, .int .i64 y4f2, .string y4f3, .slice y4f4 y4f4l y4f4c, .slice y4f5 y4f5l y4f5c] := y4
                obtain ⟨y7f0, y7f1, y7f2, y7f3, y7f4, y7f4l, y7f4c, y7f5, y7f5l, y7f5c, y7, hly7⟩ := hdep { on := 7, ground := .data } (by simp) rfl
                have y7 : ac.tmps[74]?.getD undef = .agg #[.int .i64 y7f0, .bool y7f1, .int .i64 y7f2, .string y7f3, .slice y7f4 y7f4l y7f4c, .slice y7f5 y7f5l y7f5c] := y7
                clear hdep hA
                go_simp
                have hsm := rSame_any hly4 hly7 wb (Below.refl _ _)
                rw [T.same_self] at hsm
                refine hsm.mono ?_
                rintro e w5 ⟨rfl, hb5⟩
                exact hK _ w5 hb5 rfl
              · simp at ho
                subst ho
                have y1 : ac.tmps[68]?.getD undef = .bool true := hdep { on := 1, ground := .data } (by simp) rfl
                have y8 : ac.tmps[75]?.getD undef = .bool true := hdep { on := 8, ground := .data } (by simp) rfl
                clear hdep hA
                go_simp
                exact hK _ wb (Below.refl _ _) rfl
              · simp at ho
                subst ho
                have y9 : ac.tmps[76]?.getD undef = .bool true := hdep { on := 9, ground := .data } (by simp) rfl
                clear hdep hA
                go_simp
                exact hK _ wb (Below.refl _ _) rfl
            case s5 =>
              intro ac wn hA hB hU
              have hs : slots 11 (fun i => match i with | 0 => 67 | 1 => 68 | 2 => 69 | 3 => 70 | 4 => 71 | 5 => 72 | 6 => 73 | 7 => 74 | 8 => 75 | 9 => 76 | 10 => 6 | _ => 0) = [67, 68, 69, 70, 71, 72, 73, 74, 75, 76, 6] := by rfl
              rw [hs] at hA
              have hac := hA.act (fun t ht => by
                have h8 : t = 67 ∨ t = 68 ∨ t = 69 ∨ t = 70 ∨ t = 71 ∨ t = 72 ∨ t = 73 ∨ t = 74 ∨ t = 75 ∨ t = 76 ∨ t = 6 := by simpa using ht
                rcases h8 with rfl | rfl | rfl | rfl | rfl | rfl | rfl | rfl | rfl | rfl | rfl <;> exact Nat.lt_of_lt_of_le (by decide : _ < 77) (Nat.le_refl 77))
              rw [List.foldl_cons, List.foldl_cons, List.foldl_cons, List.foldl_cons, List.foldl_cons, List.foldl_cons, List.foldl_cons, List.foldl_cons, List.foldl_cons, List.foldl_cons, List.foldl_cons, List.foldl_nil] at hac
              have HB10 := Lib.hid (bstep HB9.out hB HB9.out.size)
              have z6 : sl ac 6 = .bool true := hU 10 (by omega)
              clear hU hB hs
              generalize sl ac 67 = x67 at hac z6
              generalize sl ac 68 = x68 at hac z6
              generalize sl ac 69 = x69 at hac z6
              generalize sl ac 70 = x70 at hac z6
              generalize sl ac 71 = x71 at hac z6
              generalize sl ac 72 = x72 at hac z6
              generalize sl ac 73 = x73 at hac z6
              generalize sl ac 74 = x74 at hac z6
              generalize sl ac 75 = x75 at hac z6
              generalize sl ac 76 = x76 at hac z6
              generalize sl ac 6 = x6 at hac z6
              clear hA
              subst z6
              subst hac
              simp only [Act.put, List.setIfInBounds_toArray, List.set_cons_succ, List.set_cons_zero]

              go_wp2_with fail
              go_ret
              exact ⟨rfl, bstep HV.out HB10.out HV.out.size⟩

end Go.Proofs.Ytfhonjjhladddaa
