/-
  The reference's Single; package scalar's Unquote of any text.
-/
import Derived.Test.YtlniokpekcoodaaGreatDoorCPrintM
import Derived.Test.YtlniokpekcoodaaGreatDoorCParse
set_option linter.unusedVariables false
set_option linter.unusedSimpArgs false
namespace Go.Proofs.YtlniokpekcoodaaGreatDoor
open Go.RowKit

/-- What Single has of the first k bytes. -/
def sqt (s : ByteArray) (k : Nat) : ByteArray := ⟨(39 :: (s.data.toList.take k).flatMap sqB).toArray⟩
theorem sqB_len (b : UInt8) : (sqB b).length ≤ 2 := by
  unfold sqB
  split <;> simp
theorem sq_len (l : List UInt8) : (l.flatMap sqB).length ≤ 2 * l.length := by
  induction l with
  | nil => simp
  | cons b l ih =>
    rw [List.flatMap_cons, List.length_append, List.length_cons]
    have := sqB_len b
    omega
theorem sqt_size (s : ByteArray) (k : Nat) (hk : k ≤ s.size) : (sqt s k).size ≤ 1 + 2 * k := by
  rw [sqt, Lib.size_eq]
  have h1 := sq_len (s.data.toList.take k)
  have h2 := List.length_take_le k s.data.toList
  simp only [List.length_cons]
  omega
theorem sqt_step (s : ByteArray) (k : Nat) (h : k < s.size) : sqt s (k + 1) = sqt s k ++ ⟨(sqB s[k]).toArray⟩ := by
  rw [sqt, sqt, app_mk, take_one s k h, List.flatMap_append]
  simp
theorem byte_one (c : Nat) : (((c : Int) == 39) = true ∧ c = 39) ∨ (((c : Int) == 39) = false ∧ c ≠ 39) := by
  simp only [beq_iff_eq, beq_eq_false_iff_ne, ne_eq]
  omega

set_option maxHeartbeats 1000000 in
theorem r4Single_any (s : ByteArray) (hs : s.size ≤ 1000000000) (w : World) :
    Calls Tryz.prog 17 #[.string s] w fun e w' => e = .returned (.string ⟨(singleL s.data.toList).toArray⟩) ∧ w' = w := by
  go_enter Tryz.func17, Tryz.ntmps17
  go_wp2_with fail
  go_loop [3, 4] (fun vo vi => ∃ k : Nat, k ≤ s.size ∧ vi = .int .i64 k ∧ vo = .string (sqt s k)) (fun _ vi => s.size - (intOf vi).toNat)
  case atStart => exact ⟨0, Nat.zero_le _, rfl, rfl⟩
  case round =>
    obtain ⟨k, hk, rfl, rfl⟩ := hrel
    have hqz := sqt_size s k hk
    by_cases hkl : k < s.size
    · have HX := Lib.hid (extract_one s k hkl)
      have HS := Lib.hid (sqt_step s k hkl)
      have hez : (s.extract k (k + 1)).size ≤ 1 := by rw [HX.out, Lib.size_eq]; simp
      have e4 : (⟨#[39]⟩ : ByteArray).size = 1 := rfl
      have hsz2 : (sqt s k ++ s.extract k (k + 1) : ByteArray).size ≤ 2 + 2 * k := by rw [ByteArray.size_append]; omega
      rcases byte_one (s[k]).toNat with ⟨c1, n1⟩ | ⟨c1, n1⟩
      · have N1 : Hid (s[k] = 39) := byteIs n1
        clear n1
        go_wp2_with fail
        go_round
        case rel => exact ⟨k + 1, by omega, by go_num, by
          rw [HS.out, HX.out, N1.out, ByteArray.append_assoc]
          rfl⟩
        case measure => simp [intOf]; omega
      · have N1 : Hid (sqB s[k] = [s[k]]) := by
          show _ = _
          rw [sqB, if_neg (fun e => n1 (by rw [e]; rfl))]
        clear n1
        go_wp2_with fail
        go_round
        case rel => exact ⟨k + 1, by omega, by go_num, by rw [HS.out, N1.out, HX.out]⟩
        case measure => simp [intOf]; omega
    · have e5 : (⟨#[39]⟩ : ByteArray).size = 1 := rfl
      go_wp2_with fail
      go_ret
      have hfin : (⟨(39 :: List.flatMap sqB s.data.toList).toArray⟩ : ByteArray) ++ ⟨#[39]⟩ = ⟨(singleL s.data.toList).toArray⟩ := app_mk _ [39]
      refine ⟨congrArg (fun x => Ending.returned (.string x)) ?_, rfl⟩
      have : s.data.toList.take k = s.data.toList := List.take_of_length_le (by rw [← Lib.size_eq]; omega)
      rw [sqt, this]
      exact hfin

/-- What Unquote says of a text. -/
def unqL (l : List UInt8) : Option (List UInt8 × List UInt8) :=
  if Lib.hasPrefix l [34] = true then dblL [] (l.drop 1) else if Lib.hasPrefix l [39] = true then sglL [] (l.drop 1) else none
def UnqIn (o : Option (List UInt8 × List UInt8)) (w : World) (e : Ending) (w' : World) : Prop := Below w.heap.size w w' ∧ match o with
  | none => e = .returned (.tuple #[.string ⟨#[]⟩, .string ⟨#[]⟩, .int .i64 11])
  | some (a, b) => e = .returned (.tuple #[.string ⟨a.toArray⟩, .string ⟨b.toArray⟩, .int .i64 0])
theorem unq_fin {o o' : Option (List UInt8 × List UInt8)} {w w' : World} {e : Ending} (h : o = o') (hD : UnqIn o' w e w') : UnqIn o w e w' := h ▸ hD

theorem pre_size {s : ByteArray} {c : UInt8} (h : Lib.hasPrefix s.data.toList [c] = true) : 1 ≤ s.size := by
  rw [Lib.size_eq]
  cases hl : s.data.toList with
  | nil => rw [hl] at h; cases h
  | cons _ _ => simp

set_option maxHeartbeats 2000000 in
theorem cUnquote_any (s : ByteArray) (hs : s.size ≤ 1000000) (m : Int) (w : World) (hm : w.cell? ⟨0, 0, none⟩ = some (.int .i64 m)) (h0 : 0 < w.heap.size) :
    Calls Tryz.prog 41 #[.string s] w (UnqIn (unqL s.data.toList) w) := by
  have HM := Lib.hid hm
  clear hm
  have h4 : (s.extract 1 s.size).size ≤ 1000000 := by simp; omega
  cases hp1 : Lib.hasPrefix s.data.toList [34] with
  | true =>
    have h3 := pre_size hp1
    have h1 := Lib.hid hp1
    cases hd : dblL [] (s.extract 1 s.size).data.toList with
    | none =>
      have h2 := Lib.hid hd
      have HX : Hid (unqL s.data.toList = none) := by show _ = _; rw [unqL, if_pos hp1, ← ext_drop, hd]
      clear hp1 hd
      go_enter Tryz.func41, Tryz.ntmps41
      go_wp2_with (first
        | (go_at_call 39; refine (Tryz.strings_HasPrefix _ _ _).mono ?_; rintro e w1 ⟨he, hw⟩; rw [h1.out] at he; have hw2 := hw.symm; subst he hw2)
        | (go_at_call 67; refine (cdouble_any _ (by omega) _).mono ?_; rintro e w2 ⟨hb, he⟩; rw [h2.out] at he; simp only at he; subst he))
      go_ret3
      exact unq_fin HX.out ⟨hb, rfl⟩
    | some ab =>
      obtain ⟨a, b⟩ := ab
      have h2 := Lib.hid hd
      have HX : Hid (unqL s.data.toList = some (a, b)) := by show _ = _; rw [unqL, if_pos hp1, ← ext_drop, hd]
      clear hp1 hd
      go_enter Tryz.func41, Tryz.ntmps41
      go_wp2_with (first
        | (go_at_call 39; refine (Tryz.strings_HasPrefix _ _ _).mono ?_; rintro e w1 ⟨he, hw⟩; rw [h1.out] at he; have hw2 := hw.symm; subst he hw2)
        | (go_at_call 67; refine (cdouble_any _ (by omega) _).mono ?_; rintro e w2 ⟨hb, he⟩; rw [h2.out] at he; simp only at he; subst he))
      go_ret3
      exact unq_fin HX.out ⟨hb, rfl⟩
  | false =>
    cases hp2 : Lib.hasPrefix s.data.toList [39] with
    | true =>
      have h3 := pre_size hp2
      have h1 := Lib.hid hp1
      have h11 := Lib.hid hp2
      have hf : ¬ Lib.hasPrefix s.data.toList [34] = true := by rw [hp1]; exact fun h => by cases h
      cases hd : sglL [] (s.extract 1 s.size).data.toList with
      | none =>
        have h2 := Lib.hid hd
        have HX : Hid (unqL s.data.toList = none) := by show _ = _; rw [unqL, if_neg hf, if_pos hp2, ← ext_drop, hd]
        clear hp1 hp2 hd hf
        go_enter Tryz.func41, Tryz.ntmps41
        go_wp2_with (first
          | ((with_reducible refine (Tryz.strings_HasPrefix s ⟨#[34]⟩ _).mono ?_); rintro e w1 ⟨he, hw⟩; rw [h1.out] at he; have hw2 := hw.symm; subst he hw2)
          | ((with_reducible refine (Tryz.strings_HasPrefix s ⟨#[39]⟩ _).mono ?_); rintro e w1 ⟨he, hw⟩; rw [h11.out] at he; have hw2 := hw.symm; subst he hw2)
          | (go_at_call 68; refine (csingle_any _ h4 m _ HM.out h0).mono ?_; rintro e w2 ⟨hb, he⟩; rw [h2.out] at he; simp only at he; subst he))
        go_ret3
        exact unq_fin HX.out ⟨hb, rfl⟩
      | some ab =>
        obtain ⟨a, b⟩ := ab
        have h2 := Lib.hid hd
        have HX : Hid (unqL s.data.toList = some (a, b)) := by show _ = _; rw [unqL, if_neg hf, if_pos hp2, ← ext_drop, hd]
        clear hp1 hp2 hd hf
        go_enter Tryz.func41, Tryz.ntmps41
        go_wp2_with (first
          | ((with_reducible refine (Tryz.strings_HasPrefix s ⟨#[34]⟩ _).mono ?_); rintro e w1 ⟨he, hw⟩; rw [h1.out] at he; have hw2 := hw.symm; subst he hw2)
          | ((with_reducible refine (Tryz.strings_HasPrefix s ⟨#[39]⟩ _).mono ?_); rintro e w1 ⟨he, hw⟩; rw [h11.out] at he; have hw2 := hw.symm; subst he hw2)
          | (go_at_call 68; refine (csingle_any _ h4 m _ HM.out h0).mono ?_; rintro e w2 ⟨hb, he⟩; rw [h2.out] at he; simp only at he; subst he))
        go_ret3
        exact unq_fin HX.out ⟨hb, rfl⟩
    | false =>
      have hf : ¬ Lib.hasPrefix s.data.toList [34] = true := by rw [hp1]; exact fun h => by cases h
      have hf2 : ¬ Lib.hasPrefix s.data.toList [39] = true := by rw [hp2]; exact fun h => by cases h
      refine (cUnquote_none s hp1 hp2 w).mono ?_
      rintro e w' ⟨rfl, rfl⟩
      exact unq_fin (by rw [unqL, if_neg hf, if_neg hf2]) ⟨Below.refl _ _, rfl⟩

theorem unq_quote (l rest : List UInt8) : unqL (quoteL l ++ rest) = some (l, rest) := by
  have : Lib.hasPrefix (quoteL l ++ rest) [34] = true := by simp [Lib.hasPrefix, quoteL]
  rw [unqL, if_pos this]
  exact dbl_quote l rest
theorem unq_single (l rest : List UInt8) (h : Lib.hasPrefix rest [39] = false) : unqL (singleL l ++ rest) = some (l, rest) := by
  have h1 : ¬ Lib.hasPrefix (singleL l ++ rest) [34] = true := by simp [Lib.hasPrefix, singleL]
  have h2 : Lib.hasPrefix (singleL l ++ rest) [39] = true := by simp [Lib.hasPrefix, singleL]
  rw [unqL, if_neg h1, if_pos h2]
  exact sgl_quote l rest h
end Go.Proofs.YtlniokpekcoodaaGreatDoor

/-
  Package values' Word: what a word, or a text in quotes, is read as.
-/
set_option linter.unusedVariables false
set_option linter.unusedSimpArgs false
namespace Go.Proofs.YtlniokpekcoodaaGreatDoor
open Go.RowKit

/-- Does a word begin with a quote? -/
def quotedB (l : List UInt8) : Bool := Lib.hasPrefix l [34] || Lib.hasPrefix l [39]

set_option maxRecDepth 100000 in
set_option maxHeartbeats 2000000 in
theorem vWord_bare (s : ByteArray) (hq : quotedB s.data.toList = false) (k : Int) (b : Bool) (n : Int) (x : ByteArray) (c : Int) (w : World)
    (H : ∀ w1, Below w.heap.size w w1 → Calls Tryz.prog 40 #[.string s] w1 (ParseTo w1 (six k b n x) c)) :
    Calls Tryz.prog 19 #[.string s] w (ParseTo w (six k b n x) c) := by
  unfold quotedB at hq
  simp only [Bool.or_eq_false_iff] at hq
  have h1 := Lib.hid hq.1
  have h2 := Lib.hid hq.2
  have HH := Lib.hid H
  clear hq H
  obtain ⟨dd, hu, hdd⟩ := Tryz.structV
  have DD := Lib.hid hdd
  have HU := Lib.hid hu
  clear hdd hu
  have HB1 : Hid (Below w.heap.size w (w.alloc (.cells #[.int .i64 0, .bool false, .int .i64 0, .string ⟨#[]⟩, .slice none 0 0, .slice none 0 0] 25))) := (Below.refl _ _).alloc (Nat.le_refl _) _
  go_enter Tryz.func19, Tryz.ntmps19
  go_wp2_with (first
    | ((with_reducible refine (Tryz.strings_HasPrefix s ⟨#[34]⟩ _).mono ?_); rintro e w1 ⟨he, hw⟩; rw [h1.out] at he; have hw2 := hw.symm; subst he hw2)
    | ((with_reducible refine (Tryz.strings_HasPrefix s ⟨#[39]⟩ _).mono ?_); rintro e w1 ⟨he, hw⟩; rw [h2.out] at he; have hw2 := hw.symm; subst he hw2)
    | (go_at_call 40; refine (HH.out _ HB1.out).mono ?_; rintro e w1 ⟨rfl, hb⟩
       obtain ⟨x0, f0⟩ := one_boxV hb
       have HB := Lib.hid hb
       have c0 := x0 0
       have c1 := x0 1
       have c2 := x0 2
       have c3 := x0 3
       have c4 := x0 4
       have c5 := x0 5
       simp at c0 c1 c2 c3 c4 c5
       clear x0 hb))
  exact ret_cells_tmp w1 w.heap.size (six k b n x).toList rfl Tryz.results19 rfl rfl DD.out HU.out Tryz.sizeV (cells6 c0 c1 c2 c3 c4 c5) ⟨rfl, setRow_below _ (Nat.le_refl _) _ _ _ (((Below.refl _ _).alloc (Nat.le_refl _) _).trans (HB.out.mono (by simp)))⟩

/-- What Word makes of what Unquote tells. -/
def wordQ : Option (List UInt8 × List UInt8) → Int × ByteArray × Int
  | none => (0, ⟨#[]⟩, 11)
  | some (a, []) => (3, ⟨a.toArray⟩, 0)
  | some (_, _ :: _) => (0, ⟨#[]⟩, 10)

set_option maxRecDepth 100000 in
set_option maxHeartbeats 2000000 in
theorem vWord_quoted (s : ByteArray) (hs : s.size ≤ 1000000) (hq : quotedB s.data.toList = true) (m : Int) (w : World) (hm : w.cell? ⟨0, 0, none⟩ = some (.int .i64 m)) (h0 : 0 < w.heap.size) (k : Int) (x : ByteArray) (c : Int) (ha : wordQ (unqL s.data.toList) = (k, x, c)) :
    Calls Tryz.prog 19 #[.string s] w (ParseTo w (six k false 0 x) c) := by
  obtain ⟨dd, hu, hdd⟩ := Tryz.structV
  have DD := Lib.hid hdd
  have HU := Lib.hid hu
  clear hdd hu
  have hb1 : Below w.heap.size w (w.alloc (.cells #[.int .i64 0, .bool false, .int .i64 0, .string ⟨#[]⟩, .slice none 0 0, .slice none 0 0] 25)) := (Below.refl _ _).alloc (Nat.le_refl _) _
  have CU := Lib.hid (cUnquote_any s hs m _ ((hb1.cell (p := ⟨0, 0, none⟩) h0).trans hm) (Nat.lt_of_lt_of_le h0 hb1.size))
  have HB1 := Lib.hid hb1
  clear hb1 hm
  have hq1 : (∃ b, Lib.hasPrefix s.data.toList [34] = b ∧ (b = false → Lib.hasPrefix s.data.toList [39] = true)) := ⟨_, rfl, fun h => by
    unfold quotedB at hq
    rw [h] at hq
    simpa using hq⟩
  obtain ⟨b, hb, hb'⟩ := hq1
  have h1 := Lib.hid hb
  have h2 := Lib.hid hb'
  clear hb hb' hq
  cases hu : unqL s.data.toList with
  | none =>
    rw [hu] at ha CU
    simp only [wordQ, Prod.mk.injEq] at ha
    obtain ⟨rfl, rfl, rfl⟩ := ha
    clear hu
    cases b with
    | false =>
      have h3 := Lib.hid (h2.out rfl)
      clear h2
      go_enter Tryz.func19, Tryz.ntmps19
      go_wp2_with (first
        | ((with_reducible refine (Tryz.strings_HasPrefix s ⟨#[34]⟩ _).mono ?_); rintro e w1 ⟨he, hw⟩; rw [h1.out] at he; have hw2 := hw.symm; subst he hw2)
        | ((with_reducible refine (Tryz.strings_HasPrefix s ⟨#[39]⟩ _).mono ?_); rintro e w1 ⟨he, hw⟩; rw [h3.out] at he; have hw2 := hw.symm; subst he hw2)
        | (go_at_call 41; refine CU.out.mono ?_; rintro e w1 ⟨hb, he⟩; simp only at he; subst he
           obtain ⟨x0, f0⟩ := one_boxV hb
           have HB := Lib.hid hb
           have c0 := x0 0
           have c1 := x0 1
           have c2 := x0 2
           have c3 := x0 3
           have c4 := x0 4
           have c5 := x0 5
           simp at c0 c1 c2 c3 c4 c5
           clear x0 hb))
      exact ret_cells_tmp w1 w.heap.size (six 0 false 0 ⟨#[]⟩).toList rfl Tryz.results19 rfl rfl DD.out HU.out Tryz.sizeV (cells6 c0 c1 c2 c3 c4 c5) ⟨rfl, setRow_below _ (Nat.le_refl _) _ _ _ (((Below.refl _ _).alloc (Nat.le_refl _) _).trans (HB.out.mono (by simp)))⟩
    | true =>
      clear h2
      go_enter Tryz.func19, Tryz.ntmps19
      go_wp2_with (first
        | ((with_reducible refine (Tryz.strings_HasPrefix s ⟨#[34]⟩ _).mono ?_); rintro e w1 ⟨he, hw⟩; rw [h1.out] at he; have hw2 := hw.symm; subst he hw2)
        | ((with_reducible refine (Tryz.strings_HasPrefix s ⟨#[39]⟩ _).mono ?_); rintro e w1 ⟨he, hw⟩; rw [h3.out] at he; have hw2 := hw.symm; subst he hw2)
        | (go_at_call 41; refine CU.out.mono ?_; rintro e w1 ⟨hb, he⟩; simp only at he; subst he
           obtain ⟨x0, f0⟩ := one_boxV hb
           have HB := Lib.hid hb
           have c0 := x0 0
           have c1 := x0 1
           have c2 := x0 2
           have c3 := x0 3
           have c4 := x0 4
           have c5 := x0 5
           simp at c0 c1 c2 c3 c4 c5
           clear x0 hb))
      exact ret_cells_tmp w1 w.heap.size (six 0 false 0 ⟨#[]⟩).toList rfl Tryz.results19 rfl rfl DD.out HU.out Tryz.sizeV (cells6 c0 c1 c2 c3 c4 c5) ⟨rfl, setRow_below _ (Nat.le_refl _) _ _ _ (((Below.refl _ _).alloc (Nat.le_refl _) _).trans (HB.out.mono (by simp)))⟩
  | some ad =>
    obtain ⟨a, d⟩ := ad
    rw [hu] at ha CU
    clear hu
    cases d with
    | nil =>
      simp only [wordQ, Prod.mk.injEq] at ha
      obtain ⟨rfl, rfl, rfl⟩ := ha
      obtain ⟨xa, hxa⟩ : ∃ xa : ByteArray, xa = ⟨a.toArray⟩ := ⟨_, rfl⟩
      unfold UnqIn at CU
      simp only at CU
      rw [← hxa] at CU ⊢
      clear hxa
      cases b with
      | false =>
        have h3 := Lib.hid (h2.out rfl)
        clear h2
        go_enter Tryz.func19, Tryz.ntmps19
        go_wp2_with (first
          | ((with_reducible refine (Tryz.strings_HasPrefix s ⟨#[34]⟩ _).mono ?_); rintro e w1 ⟨he, hw⟩; rw [h1.out] at he; have hw2 := hw.symm; subst he hw2)
          | ((with_reducible refine (Tryz.strings_HasPrefix s ⟨#[39]⟩ _).mono ?_); rintro e w1 ⟨he, hw⟩; rw [h3.out] at he; have hw2 := hw.symm; subst he hw2)
          | (go_at_call 41; refine CU.out.mono ?_; rintro e w1 ⟨hb, rfl⟩; have HBU := Lib.hid hb; clear hb)
          | (go_at_call 42; refine (tStr_flat _ _).mono ?_; rintro e w2 ⟨rfl, hb⟩
             obtain ⟨x0, f0⟩ := one_boxV (HBU.out.trans (hb.mono HBU.out.size))
             have HB := Lib.hid (HBU.out.trans (hb.mono HBU.out.size))
             have c0 := x0 0
             have c1 := x0 1
             have c2 := x0 2
             have c3 := x0 3
             have c4 := x0 4
             have c5 := x0 5
             simp at c0 c1 c2 c3 c4 c5
             clear x0 hb))
        exact ret_cells_tmp w2 w.heap.size (six 3 false 0 xa).toList rfl Tryz.results19 rfl rfl DD.out HU.out Tryz.sizeV (cells6 c0 c1 c2 c3 c4 c5) ⟨rfl, setRow_below _ (Nat.le_refl _) _ _ _ (((Below.refl _ _).alloc (Nat.le_refl _) _).trans (HB.out.mono (by simp)))⟩
      | true =>
        clear h2
        go_enter Tryz.func19, Tryz.ntmps19
        go_wp2_with (first
          | ((with_reducible refine (Tryz.strings_HasPrefix s ⟨#[34]⟩ _).mono ?_); rintro e w1 ⟨he, hw⟩; rw [h1.out] at he; have hw2 := hw.symm; subst he hw2)
          | ((with_reducible refine (Tryz.strings_HasPrefix s ⟨#[39]⟩ _).mono ?_); rintro e w1 ⟨he, hw⟩; rw [h3.out] at he; have hw2 := hw.symm; subst he hw2)
          | (go_at_call 41; refine CU.out.mono ?_; rintro e w1 ⟨hb, rfl⟩; have HBU := Lib.hid hb; clear hb)
          | (go_at_call 42; refine (tStr_flat _ _).mono ?_; rintro e w2 ⟨rfl, hb⟩
             obtain ⟨x0, f0⟩ := one_boxV (HBU.out.trans (hb.mono HBU.out.size))
             have HB := Lib.hid (HBU.out.trans (hb.mono HBU.out.size))
             have c0 := x0 0
             have c1 := x0 1
             have c2 := x0 2
             have c3 := x0 3
             have c4 := x0 4
             have c5 := x0 5
             simp at c0 c1 c2 c3 c4 c5
             clear x0 hb))
        exact ret_cells_tmp w2 w.heap.size (six 3 false 0 xa).toList rfl Tryz.results19 rfl rfl DD.out HU.out Tryz.sizeV (cells6 c0 c1 c2 c3 c4 c5) ⟨rfl, setRow_below _ (Nat.le_refl _) _ _ _ (((Below.refl _ _).alloc (Nat.le_refl _) _).trans (HB.out.mono (by simp)))⟩
    | cons d0 d =>
      simp only [wordQ, Prod.mk.injEq] at ha
      obtain ⟨rfl, rfl, rfl⟩ := ha
      obtain ⟨xd, hxd, hxe2⟩ : ∃ xd : ByteArray, xd = ⟨(d0 :: d).toArray⟩ ∧ xd.toList.isEmpty = false := ⟨_, rfl, by rw [Lib.toList_data]; rfl⟩
      unfold UnqIn at CU
      simp only at CU
      rw [← hxd] at CU
      clear hxd
      cases b with
      | false =>
        have h3 := Lib.hid (h2.out rfl)
        clear h2
        go_enter Tryz.func19, Tryz.ntmps19
        go_wp2_with (first
          | ((with_reducible refine (Tryz.strings_HasPrefix s ⟨#[34]⟩ _).mono ?_); rintro e w1 ⟨he, hw⟩; rw [h1.out] at he; have hw2 := hw.symm; subst he hw2)
          | ((with_reducible refine (Tryz.strings_HasPrefix s ⟨#[39]⟩ _).mono ?_); rintro e w1 ⟨he, hw⟩; rw [h3.out] at he; have hw2 := hw.symm; subst he hw2)
          | (go_at_call 41; refine CU.out.mono ?_; rintro e w1 ⟨hb, rfl⟩
             obtain ⟨x0, f0⟩ := one_boxV hb
             have HB := Lib.hid hb
             have c0 := x0 0
             have c1 := x0 1
             have c2 := x0 2
             have c3 := x0 3
             have c4 := x0 4
             have c5 := x0 5
             simp at c0 c1 c2 c3 c4 c5
             clear x0 hb))
        exact ret_cells_tmp w1 w.heap.size (six 0 false 0 ⟨#[]⟩).toList rfl Tryz.results19 rfl rfl DD.out HU.out Tryz.sizeV (cells6 c0 c1 c2 c3 c4 c5) ⟨rfl, setRow_below _ (Nat.le_refl _) _ _ _ (((Below.refl _ _).alloc (Nat.le_refl _) _).trans (HB.out.mono (by simp)))⟩
      | true =>
        clear h2
        go_enter Tryz.func19, Tryz.ntmps19
        go_wp2_with (first
          | ((with_reducible refine (Tryz.strings_HasPrefix s ⟨#[34]⟩ _).mono ?_); rintro e w1 ⟨he, hw⟩; rw [h1.out] at he; have hw2 := hw.symm; subst he hw2)
          | ((with_reducible refine (Tryz.strings_HasPrefix s ⟨#[39]⟩ _).mono ?_); rintro e w1 ⟨he, hw⟩; rw [h3.out] at he; have hw2 := hw.symm; subst he hw2)
          | (go_at_call 41; refine CU.out.mono ?_; rintro e w1 ⟨hb, rfl⟩
             obtain ⟨x0, f0⟩ := one_boxV hb
             have HB := Lib.hid hb
             have c0 := x0 0
             have c1 := x0 1
             have c2 := x0 2
             have c3 := x0 3
             have c4 := x0 4
             have c5 := x0 5
             simp at c0 c1 c2 c3 c4 c5
             clear x0 hb))
        exact ret_cells_tmp w1 w.heap.size (six 0 false 0 ⟨#[]⟩).toList rfl Tryz.results19 rfl rfl DD.out HU.out Tryz.sizeV (cells6 c0 c1 c2 c3 c4 c5) ⟨rfl, setRow_below _ (Nat.le_refl _) _ _ _ (((Below.refl _ _).alloc (Nat.le_refl _) _).trans (HB.out.mono (by simp)))⟩

end Go.Proofs.YtlniokpekcoodaaGreatDoor
