/-
  Package funcs' changed; answer of upper, lower, trim, quote and toString.
-/
import Derived.Test.YtclkinokmpcigaaGreatDoorFnGlue
import Derived.Test.YtclkinokmpcigaaGreatDoorFnCall
import Derived.Test.YtclkinokmpcigaaGreatDoorFnAnsw
import Derived.Test.YtclkinokmpcigaaGreatDoorFnCase
import Derived.Test.YtclkinokmpcigaaGreatDoorCQuote
import Derived.Shelf.Strings.SlTrimAscii
set_option linter.unusedVariables false
set_option linter.unusedSimpArgs false
namespace Go.Proofs.YtclkinokmpcigaaGreatDoor
open Go.RowKit

theorem Tryz.setZero : (Tryz.prog.info? (Tryz.lays160_ren.t 116)).map (fun i => (i.zero, i.size)) = some (some (.agg (Array.replicate 256 (.bool false))), 256) := by kernel_rfl
/-- strings.Trim of blanks, tabs and line feeds. -/
theorem trim3_any (s : ByteArray) (w : World) (hs : s.size ≤ 140737488355328) :
    Calls Tryz.prog 48 #[.string s, .string ⟨#[32, 9, 10]⟩] w fun e w' => e = .returned (.string ⟨(Lib.trimS s.data.toList [32, 9, 10]).toArray⟩) ∧ Below w.heap.size w w' :=
  Any.strings_Trim_laid Tryz.lays160 Tryz.setZero s ⟨#[32, 9, 10]⟩ w (by omega) (by decide) (ascii_of_all (by decide))
/-- What a function of one text makes of one. -/
def ChgTo (name s r : ByteArray) : Prop := ∀ w, Calls Tryz.prog 19 #[.string name, .string s] w fun e w' => e = .returned (.string r) ∧ Below w.heap.size w w'
theorem chg_upper (s : ByteArray) (hs : s.size ≤ 65536) : ChgTo ⟨#[117, 112, 112, 101, 114]⟩ s ⟨(s.data.toList.map (caseB 97 122)).toArray⟩ := fun w => by
  generalize hr : (⟨(s.data.toList.map (caseB 97 122)).toArray⟩ : ByteArray) = r
  have HR := Lib.hid hr
  clear hr
  go_enter Tryz.func19, Tryz.ntmps19
  go_wp2_with (go_at_call 47; refine (fother_any s 97 122 (by omega) _).mono ?_; rintro e w1 ⟨he, hb⟩; rw [HR.out] at he; subst he; have HB := Lib.hid hb; clear hb)
  go_ret
  exact ⟨rfl, HB.out⟩
theorem chg_lower (s : ByteArray) (hs : s.size ≤ 65536) : ChgTo ⟨#[108, 111, 119, 101, 114]⟩ s ⟨(s.data.toList.map (caseB 65 90)).toArray⟩ := fun w => by
  generalize hr : (⟨(s.data.toList.map (caseB 65 90)).toArray⟩ : ByteArray) = r
  have HR := Lib.hid hr
  clear hr
  go_enter Tryz.func19, Tryz.ntmps19
  go_wp2_with (go_at_call 47; refine (fother_any s 65 90 (by omega) _).mono ?_; rintro e w1 ⟨he, hb⟩; rw [HR.out] at he; subst he; have HB := Lib.hid hb; clear hb)
  go_ret
  exact ⟨rfl, HB.out⟩
theorem chg_trim (s : ByteArray) (hs : s.size ≤ 65536) : ChgTo ⟨#[116, 114, 105, 109]⟩ s ⟨(Lib.trimS s.data.toList [32, 9, 10]).toArray⟩ := fun w => by
  generalize hr : (⟨(Lib.trimS s.data.toList [32, 9, 10]).toArray⟩ : ByteArray) = r
  have HR := Lib.hid hr
  clear hr
  go_enter Tryz.func19, Tryz.ntmps19
  go_wp2_with (go_at_call 48; refine (trim3_any s _ (by omega)).mono ?_; rintro e w1 ⟨he, hb⟩; rw [HR.out] at he; subst he; have HB := Lib.hid hb; clear hb)
  go_ret
  exact ⟨rfl, HB.out⟩
theorem chg_quote (s : ByteArray) (hs : s.size ≤ 65536) : ChgTo ⟨#[113, 117, 111, 116, 101]⟩ s ⟨(quoteL s.data.toList).toArray⟩ := fun w => by
  generalize hr : (⟨(quoteL s.data.toList).toArray⟩ : ByteArray) = r
  have HR := Lib.hid hr
  clear hr
  go_enter Tryz.func19, Tryz.ntmps19
  go_wp2_with (go_at_call 49; refine (cQuote_any s (by omega) _).mono ?_; rintro e w1 ⟨he, hb⟩; rw [HR.out] at he; subst he; have HB := Lib.hid hb; clear hb)
  go_ret
  exact ⟨rfl, HB.out⟩
theorem chg_same (s : ByteArray) : ChgTo ⟨#[116, 111, 83, 116, 114, 105, 110, 103]⟩ s s := fun w => by
  go_enter Tryz.func19, Tryz.ntmps19
  go_wp2_with fail
  go_ret
  exact ⟨rfl, Below.refl _ _⟩

set_option maxRecDepth 100000 in
set_option maxHeartbeats 2000000 in
theorem fanswer_upper (s r : ByteArray) (w : World) (sb : Nat) (h : Box6 w sb (cS s)) (hsb : sb < w.heap.size) (hc : ChgTo ⟨#[117, 112, 112, 101, 114]⟩ s r) :
    Calls Tryz.prog 14 #[.string ⟨#[117, 112, 112, 101, 114]⟩, .slice (some ⟨sb, 0, none⟩) 1 1] w fun e w' => e = .returned (.tuple #[.agg (cS r), .int .i64 0]) ∧ Below w.heap.size w w' := by
  have CH := Lib.hid hc
  obtain ⟨dd, hu, hdd⟩ := Tryz.structV
  have DD := Lib.hid hdd
  have HU := Lib.hid hu
  clear hdd hu
  have hb1 := (Below.refl w.heap.size w).alloc (Nat.le_refl _) (.cells zeroV 27)
  have B1 := Lib.hid (Box6.new w zeroV 27)
  have T1 := Lib.hid (Thaw.new w zeroV 27)
  have es : (w.alloc (.cells zeroV 27)).heap.size = w.heap.size + 1 := by simp
  have H1 := Lib.hid (h.later hb1 hsb)
  have HB1 := Lib.hid hb1
  have ES := Lib.hid es
  have BZ := B1
  have TZ := T1
  clear h hb1 es hc
  go_enter Tryz.func14, Tryz.ntmps14
  go_upto_region 1 with fail
  generalize (w.alloc (.cells zeroV 27)) = v at *
  have hvr : w.heap.size < v.heap.size := by rw [ES.out]; omega
  obtain ⟨g0, g1, g2, g3, g4, g5⟩ := H1.out.six
  go_upto_region 7 with fail
  go_wp2_with (first
    | (go_at_call 20; refine (cText_text _ _ _ _ _ _ _ _ _ v).mono ?_; rintro e w1 ⟨rfl, hb⟩; have HB2 := Lib.hid hb; clear hb)
    | (go_at_call 19; refine (CH.out w1).mono ?_; rintro e w2 ⟨rfl, hb⟩; have HB3 := Lib.hid (bstep HB2.out hb HB2.out.size); clear hb)
    | (go_at_call 8; refine (tStr_any r w2).mono ?_; rintro e w5 ⟨rfl, hb⟩; have HV5 := Lib.hid (bstep HB3.out hb HB3.out.size); clear hb; obtain ⟨c0', c1', c2', c3', c4', c5'⟩ := (BZ.out.later HV5.out (by omega)).six; obtain ⟨f0, f1, f2, f3, f4, f5⟩ := (TZ.out.later HV5.out (by omega)).six))
  exact ret_cells_tmp w5 w.heap.size [.int .i64 3, .bool false, .int .i64 0, .string r, .slice none 0 0, .slice none 0 0] rfl Tryz.results14 rfl rfl DD.out HU.out Tryz.sizeV ((BZ.out.later HV5.out (by omega)).cells rfl) ⟨rfl, setRow_below _ (by omega) _ _ _ (bstep HB1.out HV5.out HB1.out.size)⟩

set_option maxRecDepth 100000 in
set_option maxHeartbeats 2000000 in
theorem fanswer_lower (s r : ByteArray) (w : World) (sb : Nat) (h : Box6 w sb (cS s)) (hsb : sb < w.heap.size) (hc : ChgTo ⟨#[108, 111, 119, 101, 114]⟩ s r) :
    Calls Tryz.prog 14 #[.string ⟨#[108, 111, 119, 101, 114]⟩, .slice (some ⟨sb, 0, none⟩) 1 1] w fun e w' => e = .returned (.tuple #[.agg (cS r), .int .i64 0]) ∧ Below w.heap.size w w' := by
  have CH := Lib.hid hc
  obtain ⟨dd, hu, hdd⟩ := Tryz.structV
  have DD := Lib.hid hdd
  have HU := Lib.hid hu
  clear hdd hu
  have hb1 := (Below.refl w.heap.size w).alloc (Nat.le_refl _) (.cells zeroV 27)
  have B1 := Lib.hid (Box6.new w zeroV 27)
  have T1 := Lib.hid (Thaw.new w zeroV 27)
  have es : (w.alloc (.cells zeroV 27)).heap.size = w.heap.size + 1 := by simp
  have H1 := Lib.hid (h.later hb1 hsb)
  have HB1 := Lib.hid hb1
  have ES := Lib.hid es
  have BZ := B1
  have TZ := T1
  clear h hb1 es hc
  go_enter Tryz.func14, Tryz.ntmps14
  go_upto_region 1 with fail
  generalize (w.alloc (.cells zeroV 27)) = v at *
  have hvr : w.heap.size < v.heap.size := by rw [ES.out]; omega
  obtain ⟨g0, g1, g2, g3, g4, g5⟩ := H1.out.six
  go_upto_region 7 with fail
  go_wp2_with (first
    | (go_at_call 20; refine (cText_text _ _ _ _ _ _ _ _ _ v).mono ?_; rintro e w1 ⟨rfl, hb⟩; have HB2 := Lib.hid hb; clear hb)
    | (go_at_call 19; refine (CH.out w1).mono ?_; rintro e w2 ⟨rfl, hb⟩; have HB3 := Lib.hid (bstep HB2.out hb HB2.out.size); clear hb)
    | (go_at_call 8; refine (tStr_any r w2).mono ?_; rintro e w5 ⟨rfl, hb⟩; have HV5 := Lib.hid (bstep HB3.out hb HB3.out.size); clear hb; obtain ⟨c0', c1', c2', c3', c4', c5'⟩ := (BZ.out.later HV5.out (by omega)).six; obtain ⟨f0, f1, f2, f3, f4, f5⟩ := (TZ.out.later HV5.out (by omega)).six))
  exact ret_cells_tmp w5 w.heap.size [.int .i64 3, .bool false, .int .i64 0, .string r, .slice none 0 0, .slice none 0 0] rfl Tryz.results14 rfl rfl DD.out HU.out Tryz.sizeV ((BZ.out.later HV5.out (by omega)).cells rfl) ⟨rfl, setRow_below _ (by omega) _ _ _ (bstep HB1.out HV5.out HB1.out.size)⟩

set_option maxRecDepth 100000 in
set_option maxHeartbeats 2000000 in
theorem fanswer_trim (s r : ByteArray) (w : World) (sb : Nat) (h : Box6 w sb (cS s)) (hsb : sb < w.heap.size) (hc : ChgTo ⟨#[116, 114, 105, 109]⟩ s r) :
    Calls Tryz.prog 14 #[.string ⟨#[116, 114, 105, 109]⟩, .slice (some ⟨sb, 0, none⟩) 1 1] w fun e w' => e = .returned (.tuple #[.agg (cS r), .int .i64 0]) ∧ Below w.heap.size w w' := by
  have CH := Lib.hid hc
  obtain ⟨dd, hu, hdd⟩ := Tryz.structV
  have DD := Lib.hid hdd
  have HU := Lib.hid hu
  clear hdd hu
  have hb1 := (Below.refl w.heap.size w).alloc (Nat.le_refl _) (.cells zeroV 27)
  have B1 := Lib.hid (Box6.new w zeroV 27)
  have T1 := Lib.hid (Thaw.new w zeroV 27)
  have es : (w.alloc (.cells zeroV 27)).heap.size = w.heap.size + 1 := by simp
  have H1 := Lib.hid (h.later hb1 hsb)
  have HB1 := Lib.hid hb1
  have ES := Lib.hid es
  have BZ := B1
  have TZ := T1
  clear h hb1 es hc
  go_enter Tryz.func14, Tryz.ntmps14
  go_upto_region 1 with fail
  generalize (w.alloc (.cells zeroV 27)) = v at *
  have hvr : w.heap.size < v.heap.size := by rw [ES.out]; omega
  obtain ⟨g0, g1, g2, g3, g4, g5⟩ := H1.out.six
  go_upto_region 7 with fail
  go_wp2_with (first
    | (go_at_call 20; refine (cText_text _ _ _ _ _ _ _ _ _ v).mono ?_; rintro e w1 ⟨rfl, hb⟩; have HB2 := Lib.hid hb; clear hb)
    | (go_at_call 19; refine (CH.out w1).mono ?_; rintro e w2 ⟨rfl, hb⟩; have HB3 := Lib.hid (bstep HB2.out hb HB2.out.size); clear hb)
    | (go_at_call 8; refine (tStr_any r w2).mono ?_; rintro e w5 ⟨rfl, hb⟩; have HV5 := Lib.hid (bstep HB3.out hb HB3.out.size); clear hb; obtain ⟨c0', c1', c2', c3', c4', c5'⟩ := (BZ.out.later HV5.out (by omega)).six; obtain ⟨f0, f1, f2, f3, f4, f5⟩ := (TZ.out.later HV5.out (by omega)).six))
  exact ret_cells_tmp w5 w.heap.size [.int .i64 3, .bool false, .int .i64 0, .string r, .slice none 0 0, .slice none 0 0] rfl Tryz.results14 rfl rfl DD.out HU.out Tryz.sizeV ((BZ.out.later HV5.out (by omega)).cells rfl) ⟨rfl, setRow_below _ (by omega) _ _ _ (bstep HB1.out HV5.out HB1.out.size)⟩

set_option maxRecDepth 100000 in
set_option maxHeartbeats 2000000 in
theorem fanswer_quote (s r : ByteArray) (w : World) (sb : Nat) (h : Box6 w sb (cS s)) (hsb : sb < w.heap.size) (hc : ChgTo ⟨#[113, 117, 111, 116, 101]⟩ s r) :
    Calls Tryz.prog 14 #[.string ⟨#[113, 117, 111, 116, 101]⟩, .slice (some ⟨sb, 0, none⟩) 1 1] w fun e w' => e = .returned (.tuple #[.agg (cS r), .int .i64 0]) ∧ Below w.heap.size w w' := by
  have CH := Lib.hid hc
  obtain ⟨dd, hu, hdd⟩ := Tryz.structV
  have DD := Lib.hid hdd
  have HU := Lib.hid hu
  clear hdd hu
  have hb1 := (Below.refl w.heap.size w).alloc (Nat.le_refl _) (.cells zeroV 27)
  have B1 := Lib.hid (Box6.new w zeroV 27)
  have T1 := Lib.hid (Thaw.new w zeroV 27)
  have es : (w.alloc (.cells zeroV 27)).heap.size = w.heap.size + 1 := by simp
  have H1 := Lib.hid (h.later hb1 hsb)
  have HB1 := Lib.hid hb1
  have ES := Lib.hid es
  have BZ := B1
  have TZ := T1
  clear h hb1 es hc
  go_enter Tryz.func14, Tryz.ntmps14
  go_upto_region 1 with fail
  generalize (w.alloc (.cells zeroV 27)) = v at *
  have hvr : w.heap.size < v.heap.size := by rw [ES.out]; omega
  obtain ⟨g0, g1, g2, g3, g4, g5⟩ := H1.out.six
  go_upto_region 7 with fail
  go_wp2_with (first
    | (go_at_call 20; refine (cText_text _ _ _ _ _ _ _ _ _ v).mono ?_; rintro e w1 ⟨rfl, hb⟩; have HB2 := Lib.hid hb; clear hb)
    | (go_at_call 19; refine (CH.out w1).mono ?_; rintro e w2 ⟨rfl, hb⟩; have HB3 := Lib.hid (bstep HB2.out hb HB2.out.size); clear hb)
    | (go_at_call 8; refine (tStr_any r w2).mono ?_; rintro e w5 ⟨rfl, hb⟩; have HV5 := Lib.hid (bstep HB3.out hb HB3.out.size); clear hb; obtain ⟨c0', c1', c2', c3', c4', c5'⟩ := (BZ.out.later HV5.out (by omega)).six; obtain ⟨f0, f1, f2, f3, f4, f5⟩ := (TZ.out.later HV5.out (by omega)).six))
  exact ret_cells_tmp w5 w.heap.size [.int .i64 3, .bool false, .int .i64 0, .string r, .slice none 0 0, .slice none 0 0] rfl Tryz.results14 rfl rfl DD.out HU.out Tryz.sizeV ((BZ.out.later HV5.out (by omega)).cells rfl) ⟨rfl, setRow_below _ (by omega) _ _ _ (bstep HB1.out HV5.out HB1.out.size)⟩

set_option maxRecDepth 100000 in
set_option maxHeartbeats 2000000 in
theorem fanswer_toString (s r : ByteArray) (w : World) (sb : Nat) (h : Box6 w sb (cS s)) (hsb : sb < w.heap.size) (hc : ChgTo ⟨#[116, 111, 83, 116, 114, 105, 110, 103]⟩ s r) :
    Calls Tryz.prog 14 #[.string ⟨#[116, 111, 83, 116, 114, 105, 110, 103]⟩, .slice (some ⟨sb, 0, none⟩) 1 1] w fun e w' => e = .returned (.tuple #[.agg (cS r), .int .i64 0]) ∧ Below w.heap.size w w' := by
  have CH := Lib.hid hc
  obtain ⟨dd, hu, hdd⟩ := Tryz.structV
  have DD := Lib.hid hdd
  have HU := Lib.hid hu
  clear hdd hu
  have hb1 := (Below.refl w.heap.size w).alloc (Nat.le_refl _) (.cells zeroV 27)
  have B1 := Lib.hid (Box6.new w zeroV 27)
  have T1 := Lib.hid (Thaw.new w zeroV 27)
  have es : (w.alloc (.cells zeroV 27)).heap.size = w.heap.size + 1 := by simp
  have H1 := Lib.hid (h.later hb1 hsb)
  have HB1 := Lib.hid hb1
  have ES := Lib.hid es
  have BZ := B1
  have TZ := T1
  clear h hb1 es hc
  go_enter Tryz.func14, Tryz.ntmps14
  go_upto_region 1 with fail
  generalize (w.alloc (.cells zeroV 27)) = v at *
  have hvr : w.heap.size < v.heap.size := by rw [ES.out]; omega
  obtain ⟨g0, g1, g2, g3, g4, g5⟩ := H1.out.six
  go_upto_region 7 with fail
  go_wp2_with (first
    | (go_at_call 20; refine (cText_text _ _ _ _ _ _ _ _ _ v).mono ?_; rintro e w1 ⟨rfl, hb⟩; have HB2 := Lib.hid hb; clear hb)
    | (go_at_call 19; refine (CH.out w1).mono ?_; rintro e w2 ⟨rfl, hb⟩; have HB3 := Lib.hid (bstep HB2.out hb HB2.out.size); clear hb)
    | (go_at_call 8; refine (tStr_any r w2).mono ?_; rintro e w5 ⟨rfl, hb⟩; have HV5 := Lib.hid (bstep HB3.out hb HB3.out.size); clear hb; obtain ⟨c0', c1', c2', c3', c4', c5'⟩ := (BZ.out.later HV5.out (by omega)).six; obtain ⟨f0, f1, f2, f3, f4, f5⟩ := (TZ.out.later HV5.out (by omega)).six))
  exact ret_cells_tmp w5 w.heap.size [.int .i64 3, .bool false, .int .i64 0, .string r, .slice none 0 0, .slice none 0 0] rfl Tryz.results14 rfl rfl DD.out HU.out Tryz.sizeV ((BZ.out.later HV5.out (by omega)).cells rfl) ⟨rfl, setRow_below _ (by omega) _ _ _ (bstep HB1.out HV5.out HB1.out.size)⟩

end Go.Proofs.YtclkinokmpcigaaGreatDoor
