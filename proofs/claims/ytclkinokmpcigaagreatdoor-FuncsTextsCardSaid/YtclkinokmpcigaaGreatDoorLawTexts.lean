/-
  FuncsTexts: the law's contract.
-/
import Derived.Test.YtclkinokmpcigaaGreatDoorFnTx
import Derived.Test.YtclkinokmpcigaaGreatDoorUnqQ
import Derived.Test.YtclkinokmpcigaaGreatDoorText
import Derived.Test.YtclkinokmpcigaaGreatDoorSpecsG
set_option linter.unusedVariables false
set_option linter.unusedSimpArgs false
namespace Go.Proofs.YtclkinokmpcigaaGreatDoor
open Go.RowKit

set_option maxRecDepth 100000 in
set_option maxHeartbeats 8000000 in
theorem funcsTexts_any (a b : ByteArray) (ha : a.size ≤ 140737488355328) (hb0 : b.size ≤ 140737488355328) (w : World) (hw : FnTab w) :
    Calls Tryz.prog 3 #[.string a, .string b] w fun e w' => e = .returned (.bool true) ∧ Below w.heap.size w w' := by
  have AW0 : Hid (Calls Tryz.prog 5 #[] w fun e w2 => e = .returned (.bool true) ∧ Below w.heap.size w w2) := l8awake_any w hw
  have FT0 := Lib.hid hw
  clear hw
  go_enter Tryz.func3, Tryz.ntmps3
  go_upto_region 1 with fail
  by_cases hsz : a.size + b.size ≤ 500
  case neg =>
    clear FT0
    go_wp2_with (go_at_call 5; refine AW0.out.mono ?_; rintro e w3 ⟨rfl, hb3⟩)
    go_ret
    exact ⟨rfl, hb3⟩
  cases hta : textB a with
  | false =>
    have TA := Lib.hid (rText_any a ha w)
    rw [hta] at TA
    clear FT0 hta
    go_wp2_with (first
      | (go_at_call 4; refine TA.out.mono ?_; rintro e w2 ⟨rfl, rfl⟩)
      | (go_at_call 5; refine AW0.out.mono ?_; rintro e w3 ⟨rfl, hb3⟩))
    go_ret
    exact ⟨rfl, hb3⟩
  | true =>
    have TA := Lib.hid (rText_any a ha w)
    rw [hta] at TA
    clear hta
    cases htb : textB b with
    | false =>
      have TB := Lib.hid (rText_any b hb0 w)
      rw [htb] at TB
      clear FT0 htb
      go_wp2_with (first
        | (with_reducible refine TA.out.mono ?_; rintro e w2 ⟨rfl, hw2⟩; first | (have hw3 : w = w2 := hw2; subst hw3) | (have hw3 : w = w2 := hw2.symm; subst hw3))
        | (with_reducible refine TB.out.mono ?_; rintro e w2 ⟨rfl, hw2⟩; first | (have hw3 : w = w2 := hw2; subst hw3) | (have hw3 : w = w2 := hw2.symm; subst hw3))
        | (go_at_call 5; refine AW0.out.mono ?_; rintro e w3 ⟨rfl, hb3⟩))
      go_ret
      exact ⟨rfl, hb3⟩
    | true =>
      have TB := Lib.hid (rText_any b hb0 w)
      rw [htb] at TB
      clear htb AW0
      go_upto_region 4 with (first
        | (with_reducible refine TA.out.mono ?_; rintro e w2 ⟨rfl, hw2⟩; first | (have hw3 : w = w2 := hw2; subst hw3) | (have hw3 : w = w2 := hw2.symm; subst hw3))
        | (with_reducible refine TB.out.mono ?_; rintro e w2 ⟨rfl, hw2⟩; first | (have hw3 : w = w2 := hw2; subst hw3) | (have hw3 : w = w2 := hw2.symm; subst hw3)))
      go_upto_region 5 with (first
        | (with_reducible refine (tStr_any a w).mono ?_; rintro e w2 ⟨rfl, hb⟩; have HB1 := Lib.hid hb; clear hb)
        | (with_reducible refine (tStr_any b w2).mono ?_; rintro e u ⟨rfl, hb⟩; have HBU := Lib.hid (bstep HB1.out hb HB1.out.size); clear hb))
      have hbv : Below w.heap.size w ((u.alloc (.cells #[.int .i64 3, .bool false, .int .i64 0, .string a, .slice none 0 0, .slice none 0 0] 27)).alloc (.cells #[.int .i64 3, .bool false, .int .i64 0, .string b, .slice none 0 0, .slice none 0 0] 27)) := (HBU.out.alloc HBU.out.size _).alloc (by rw [World.size_alloc]; exact Nat.le_succ_of_le HBU.out.size) _
      have bx1 : Box6 ((u.alloc (.cells #[.int .i64 3, .bool false, .int .i64 0, .string a, .slice none 0 0, .slice none 0 0] 27)).alloc (.cells #[.int .i64 3, .bool false, .int .i64 0, .string b, .slice none 0 0, .slice none 0 0] 27)) u.heap.size #[.int .i64 3, .bool false, .int .i64 0, .string a, .slice none 0 0, .slice none 0 0] := (Box6.new u _ 27).later ((Below.refl (u.heap.size + 1) _).alloc (by simp) _) (by omega)
      have bx2 := Box6.new (u.alloc (.cells #[.int .i64 3, .bool false, .int .i64 0, .string a, .slice none 0 0, .slice none 0 0] 27)) #[.int .i64 3, .bool false, .int .i64 0, .string b, .slice none 0 0, .slice none 0 0] 27
      rw [World.size_alloc] at bx2
      have es2 : ((u.alloc (.cells #[.int .i64 3, .bool false, .int .i64 0, .string a, .slice none 0 0, .slice none 0 0] 27)).alloc (.cells #[.int .i64 3, .bool false, .int .i64 0, .string b, .slice none 0 0, .slice none 0 0] 27)).heap.size = u.heap.size + 2 := by simp
      have HV := Lib.hid hbv
      have B1 := Lib.hid bx1
      have B2 := Lib.hid bx2
      have ES := Lib.hid es2
      have FT := Lib.hid (FT0.out.later hbv)
      clear hbv bx1 bx2 es2 FT0 TA TB HB1
      generalize ((u.alloc (.cells #[.int .i64 3, .bool false, .int .i64 0, .string a, .slice none 0 0, .slice none 0 0] 27)).alloc (.cells #[.int .i64 3, .bool false, .int .i64 0, .string b, .slice none 0 0, .slice none 0 0] 27)) = v at *
      have hvs := Nat.le_of_eq ES.out.symm
      have HB2 := Lib.hid (Below.refl v.heap.size v)
      have AW : Hid (∀ w', Below v.heap.size v w' → Calls Tryz.prog 5 #[] w' fun e w2 => e = .returned (.bool true) ∧ Below w'.heap.size w' w2) := fun w' hb => l8awake_any w' (FT.out.later hb)
      obtain ⟨low, hlow⟩ : ∃ r : ByteArray, r = ⟨(a.data.toList.map (caseB 65 90)).toArray⟩ := ⟨_, rfl⟩
      obtain ⟨upp, hupp⟩ : ∃ r : ByteArray, r = ⟨(a.data.toList.map (caseB 97 122)).toArray⟩ := ⟨_, rfl⟩
      obtain ⟨tri, htri⟩ : ∃ r : ByteArray, r = ⟨(Lib.trimS a.data.toList [32, 9, 10]).toArray⟩ := ⟨_, rfl⟩
      obtain ⟨quo, hquo⟩ : ∃ r : ByteArray, r = ⟨(quoteL a.data.toList).toArray⟩ := ⟨_, rfl⟩
      have hal : a.data.toList.length = a.size := (Lib.size_eq a).symm
      have zl : low.size ≤ 500 := by rw [hlow, Lib.size_eq]; simp only [List.length_map, hal]; omega
      have zu : upp.size ≤ 500 := by rw [hupp, Lib.size_eq]; simp only [List.length_map, hal]; omega
      have zt : tri.size ≤ 500 := by rw [htri, Lib.size_eq]; have := trimS_le a.data.toList [32, 9, 10]; show (Lib.trimS a.data.toList [32, 9, 10]).length ≤ 500; omega
      have zq : quo.size ≤ 1002 := by rw [hquo, Lib.size_eq]; have := quote_len a.data.toList; show (quoteL a.data.toList).length ≤ 1002; omega
      have PRI : Hid (∀ w', Below v.heap.size v w' → ∀ sb cl, SliceV w' (fun _ => True) [txT a, txT b] (some ⟨sb, 0, none⟩) 2 cl → Calls Tryz.prog 6 #[.string ⟨#[112, 114, 105, 110, 116]⟩, .slice (some ⟨sb, 0, none⟩) 2 2] w' (TxOut (a ++ b) w')) := fun w' hb sb cl h => text_print (by omega) w' (FT.out.later hb) sb cl h
      have JOI : Hid (∀ w', Below v.heap.size v w' → ∀ sb, JoinV w' sb [txT a, txT b] → Calls Tryz.prog 6 #[.string ⟨#[106, 111, 105, 110]⟩, .slice (some ⟨sb, 0, none⟩) 2 2] w' (TxOut (a ++ b) w')) := fun w' hb sb h => text_join (by omega) w' (FT.out.later hb) sb h
      have TOS : Hid (∀ w', Below v.heap.size v w' → ∀ sb, Box6 w' sb #[.int .i64 3, .bool false, .int .i64 0, .string a, .slice none 0 0, .slice none 0 0] → sb < w'.heap.size → Calls Tryz.prog 6 #[.string ⟨#[116, 111, 83, 116, 114, 105, 110, 103]⟩, .slice (some ⟨sb, 0, none⟩) 1 1] w' (TxOut a w')) := fun w' hb sb h hl => text_toString (chg_same a) (by omega) w' (FT.out.later hb) sb h hl
      have LOW : Hid (∀ w', Below v.heap.size v w' → ∀ sb, Box6 w' sb #[.int .i64 3, .bool false, .int .i64 0, .string a, .slice none 0 0, .slice none 0 0] → sb < w'.heap.size → Calls Tryz.prog 6 #[.string ⟨#[108, 111, 119, 101, 114]⟩, .slice (some ⟨sb, 0, none⟩) 1 1] w' (TxOut low w')) := fun w' hb sb h hl => text_lower (by rw [hlow]; exact chg_lower a (by omega)) (by omega) w' (FT.out.later hb) sb h hl
      have UPP : Hid (∀ w', Below v.heap.size v w' → ∀ sb, Box6 w' sb #[.int .i64 3, .bool false, .int .i64 0, .string a, .slice none 0 0, .slice none 0 0] → sb < w'.heap.size → Calls Tryz.prog 6 #[.string ⟨#[117, 112, 112, 101, 114]⟩, .slice (some ⟨sb, 0, none⟩) 1 1] w' (TxOut upp w')) := fun w' hb sb h hl => text_upper (by rw [hupp]; exact chg_upper a (by omega)) (by omega) w' (FT.out.later hb) sb h hl
      have TRI : Hid (∀ w', Below v.heap.size v w' → ∀ sb, Box6 w' sb #[.int .i64 3, .bool false, .int .i64 0, .string a, .slice none 0 0, .slice none 0 0] → sb < w'.heap.size → Calls Tryz.prog 6 #[.string ⟨#[116, 114, 105, 109]⟩, .slice (some ⟨sb, 0, none⟩) 1 1] w' (TxOut tri w')) := fun w' hb sb h hl => text_trim (by rw [htri]; exact chg_trim a (by omega)) (by omega) w' (FT.out.later hb) sb h hl
      have QUO : Hid (∀ w', Below v.heap.size v w' → ∀ sb, Box6 w' sb #[.int .i64 3, .bool false, .int .i64 0, .string a, .slice none 0 0, .slice none 0 0] → sb < w'.heap.size → Calls Tryz.prog 6 #[.string ⟨#[113, 117, 111, 116, 101]⟩, .slice (some ⟨sb, 0, none⟩) 1 1] w' (TxOut quo w')) := fun w' hb sb h hl => text_quote (by rw [hquo]; exact chg_quote a (by omega)) (by omega) w' (FT.out.later hb) sb h hl
      have LOU : Hid (∀ w', Below v.heap.size v w' → ∀ sb, Box6 w' sb #[.int .i64 3, .bool false, .int .i64 0, .string upp, .slice none 0 0, .slice none 0 0] → sb < w'.heap.size → Calls Tryz.prog 6 #[.string ⟨#[108, 111, 119, 101, 114]⟩, .slice (some ⟨sb, 0, none⟩) 1 1] w' (TxOut low w')) := fun w' hb sb h hl => text_lower (s := upp) (by
        have k := chg_lower upp (by omega)
        have e : upp.data.toList.map (caseB 65 90) = a.data.toList.map (caseB 65 90) := by rw [hupp]; exact lower_upper a.data.toList
        rw [e, ← hlow] at k
        exact k) (by omega) w' (FT.out.later hb) sb h hl
      have TRT : Hid (∀ w', Below v.heap.size v w' → ∀ sb, Box6 w' sb #[.int .i64 3, .bool false, .int .i64 0, .string tri, .slice none 0 0, .slice none 0 0] → sb < w'.heap.size → Calls Tryz.prog 6 #[.string ⟨#[116, 114, 105, 109]⟩, .slice (some ⟨sb, 0, none⟩) 1 1] w' (TxOut tri w')) := fun w' hb sb h hl => text_trim (s := tri) (by
        have k := chg_trim tri (by omega)
        have e : Lib.trimS tri.data.toList [32, 9, 10] = Lib.trimS a.data.toList [32, 9, 10] := by rw [htri]; exact trim_trim a.data.toList [32, 9, 10]
        rw [e, ← htri] at k
        exact k) (by omega) w' (FT.out.later hb) sb h hl
      have IND : Hid (∀ w', Below v.heap.size v w' → ∀ sb, TwoV w' sb (.int .i64 2) (.bool false) (.int .i64 0) (.string ⟨#[]⟩) (.slice none 0 0) (.slice none 0 0) (.int .i64 3) (.bool false) (.int .i64 0) (.string a) (.slice none 0 0) (.slice none 0 0) → Calls Tryz.prog 6 #[.string ⟨#[105, 110, 100, 101, 110, 116]⟩, .slice (some ⟨sb, 0, none⟩) 2 2] w' (TxOut a w')) := fun w' hb sb h => text_indent (by omega) w' (FT.out.later hb) sb h
      have NIN : Hid (∀ w', Below v.heap.size v w' → ∀ sb, TwoV w' sb (.int .i64 2) (.bool false) (.int .i64 0) (.string ⟨#[]⟩) (.slice none 0 0) (.slice none 0 0) (.int .i64 3) (.bool false) (.int .i64 0) (.string a) (.slice none 0 0) (.slice none 0 0) → Calls Tryz.prog 6 #[.string ⟨#[110, 105, 110, 100, 101, 110, 116]⟩, .slice (some ⟨sb, 0, none⟩) 2 2] w' (TxOut (⟨#[10]⟩ ++ a) w')) := fun w' hb sb h => text_nindent (by omega) w' (FT.out.later hb) sb h
      have UNQ : Hid (∀ w', Calls Tryz.prog 11 #[.string quo] w' fun e w2 => e = .returned (.tuple #[.string a, .string ⟨#[]⟩, .int .i64 0]) ∧ Below w'.heap.size w' w2) := fun w' => cUnquote_quoted quo a.data.toList [] (by omega) (by rw [hquo, List.append_nil]) w'
      have hza : a.size ≤ 140737488355328 := ha
      clear hlow hupp htri hquo hal zl zu zt zq
      obtain ⟨p0, p1, p2, p3, p4, p5⟩ := (B1.out.later HB2.out (by omega)).six
      obtain ⟨q0, q1, q2, q3, q4, q5⟩ := (B2.out.later HB2.out (by omega)).six
      refine wp_region_specs3 v 31 (fun i => match i with | 0 => 34 | 1 => 35 | 2 => 36 | 3 => 37 | 4 => 38 | 5 => 39 | 6 => 40 | 7 => 41 | 8 => 42 | 9 => 43 | 10 => 44 | 11 => 45 | 12 => 46 | 13 => 47 | 14 => 48 | 15 => 49 | 16 => 50 | 17 => 51 | 18 => 52 | 19 => 53 | 20 => 54 | 21 => 55 | 22 => 56 | 23 => 57 | 24 => 58 | 25 => 59 | 26 => 60 | 27 => 61 | 28 => 62 | 29 => 63 | 30 => 64 | _ => 0) (fun i x wx => match i with | 0 => x = .func (Fn.func 6) #[] #[] | 1 => x = .agg #[.int .i64 3, .bool false, .int .i64 0, .string a, .slice none 0 0, .slice none 0 0] | 2 => x = .agg #[.int .i64 3, .bool false, .int .i64 0, .string b, .slice none 0 0, .slice none 0 0] | 3 => ∃ sb cl, x = .slice (some ⟨sb, 0, none⟩) 2 2 ∧ SliceV wx (fun _ => True) [txT a, txT b] (some ⟨sb, 0, none⟩) 2 cl | 4 => x = .string (a ++ b) | 5 => x = .string a | 6 => x = .string b | 7 => x = .string (a ++ b) | 8 => x = .bool false | 9 => x = .bool false | 10 => x = .func (Fn.func 6) #[] #[] | 11 => x = .agg #[.int .i64 3, .bool false, .int .i64 0, .string ⟨#[]⟩, .slice none 0 0, .slice none 0 0] | 12 => x = .agg #[.int .i64 3, .bool false, .int .i64 0, .string a, .slice none 0 0, .slice none 0 0] | 13 => x = .agg #[.int .i64 3, .bool false, .int .i64 0, .string b, .slice none 0 0, .slice none 0 0] | 14 => ∃ sb cl, x = .slice (some ⟨sb, 0, none⟩) 2 2 ∧ SliceV wx (fun _ => True) [txT a, txT b] (some ⟨sb, 0, none⟩) 2 cl | 15 => ∃ ds : Array Value, x = .agg ds ∧ Lies wx (fun _ => True) (T.listOf [txT a, txT b]) ds | 16 => ∃ sb, x = .slice (some ⟨sb, 0, none⟩) 2 2 ∧ JoinV wx sb [txT a, txT b] | 17 => x = .string (a ++ b) | 18 => x = .string a | 19 => x = .string b | 20 => x = .string (a ++ b) | 21 => x = .bool false | 22 => x = .bool false | 23 => x = .bool false | 24 => x = .func (Fn.func 6) #[] #[] | 25 => x = .agg #[.int .i64 3, .bool false, .int .i64 0, .string a, .slice none 0 0, .slice none 0 0] | 26 => ∃ sb, x = .slice (some ⟨sb, 0, none⟩) 1 1 ∧ Box6 wx sb #[.int .i64 3, .bool false, .int .i64 0, .string a, .slice none 0 0, .slice none 0 0] ∧ sb < wx.heap.size | 27 => x = .string a | 28 => x = .string a | 29 => x = .bool false | 30 => x = .bool false | _ => True) (by kernel_rfl) (by kernel_rfl) ?s1 (Below.refl _ _) ?s2 ?s3 ?s4 ?s5
      case s1 => intro i hi; rcases (by omega : i = 0 ∨ i = 1 ∨ i = 2 ∨ i = 3 ∨ i = 4 ∨ i = 5 ∨ i = 6 ∨ i = 7 ∨ i = 8 ∨ i = 9 ∨ i = 10 ∨ i = 11 ∨ i = 12 ∨ i = 13 ∨ i = 14 ∨ i = 15 ∨ i = 16 ∨ i = 17 ∨ i = 18 ∨ i = 19 ∨ i = 20 ∨ i = 21 ∨ i = 22 ∨ i = 23 ∨ i = 24 ∨ i = 25 ∨ i = 26 ∨ i = 27 ∨ i = 28 ∨ i = 29 ∨ i = 30) with rfl | rfl | rfl | rfl | rfl | rfl | rfl | rfl | rfl | rfl | rfl | rfl | rfl | rfl | rfl | rfl | rfl | rfl | rfl | rfl | rfl | rfl | rfl | rfl | rfl | rfl | rfl | rfl | rfl | rfl | rfl <;> exact Nat.lt_of_lt_of_le (by decide : _ < 134) (Nat.le_refl 134)
      case s2 =>
        intro i x w1 w2 hb hU
        match i, hU with
        | 3, ⟨sb, cl, e, hS⟩ => exact ⟨sb, cl, e, hS.later hb⟩
        | 4, h => exact h
        | 11, h => exact h
        | 14, ⟨sb, cl, e, hS⟩ => exact ⟨sb, cl, e, hS.later hb⟩
        | 15, ⟨ds, e, hL⟩ => exact ⟨ds, e, hL.later hb⟩
        | 16, ⟨sb, e, hS⟩ => exact ⟨sb, e, hS.later hb⟩
        | 17, h => exact h
        | 26, ⟨sb, e, hS, hl⟩ => exact ⟨sb, e, hS.later hb hl, by have := hb.size; omega⟩
        | 27, h => exact h
        | 0, h | 1, h | 2, h | 5, h | 6, h | 7, h | 8, h | 9, h | 10, h | 12, h | 13, h | 18, h | 19, h | 20, h | 21, h | 22, h | 23, h | 24, h | 25, h | 28, h | 29, h | 30, h => exact h
        | (n + 31), _ => trivial
      case s3 =>
        intro i o g b ho hg x w hu
        have hi : i < 31 := (Array.getElem?_eq_some_iff.1 ho).1
        rcases (by omega : i = 0 ∨ i = 1 ∨ i = 2 ∨ i = 3 ∨ i = 4 ∨ i = 5 ∨ i = 6 ∨ i = 7 ∨ i = 8 ∨ i = 9 ∨ i = 10 ∨ i = 11 ∨ i = 12 ∨ i = 13 ∨ i = 14 ∨ i = 15 ∨ i = 16 ∨ i = 17 ∨ i = 18 ∨ i = 19 ∨ i = 20 ∨ i = 21 ∨ i = 22 ∨ i = 23 ∨ i = 24 ∨ i = 25 ∨ i = 26 ∨ i = 27 ∨ i = 28 ∨ i = 29 ∨ i = 30) with rfl | rfl | rfl | rfl | rfl | rfl | rfl | rfl | rfl | rfl | rfl | rfl | rfl | rfl | rfl | rfl | rfl | rfl | rfl | rfl | rfl | rfl | rfl | rfl | rfl | rfl | rfl | rfl | rfl | rfl | rfl
        · simp at ho; subst ho; cases hg
        · simp at ho; subst ho; cases hg
        · simp at ho; subst ho; cases hg
        · simp at ho; subst ho; cases hg
        · simp at ho; subst ho; cases hg
        · simp at ho; subst ho; cases hg
        · simp at ho; subst ho; cases hg
        · simp at ho; subst ho; cases hg
        · simp at ho; subst ho; cases hg
        · simp at ho; subst ho; cases hg
        · simp at ho; subst ho; cases hg; exact hu
        · simp at ho; subst ho; cases hg; exact hu
        · simp at ho; subst ho; cases hg; exact hu
        · simp at ho; subst ho; cases hg; exact hu
        · simp at ho; subst ho; cases hg; exact hu
        · simp at ho; subst ho; cases hg; exact hu
        · simp at ho; subst ho; cases hg; exact hu
        · simp at ho; subst ho; cases hg; exact hu
        · simp at ho; subst ho; cases hg; exact hu
        · simp at ho; subst ho; cases hg; exact hu
        · simp at ho; subst ho; cases hg; exact hu
        · simp at ho; subst ho; cases hg; exact hu
        · simp at ho; subst ho; cases hg
        · simp at ho; subst ho; cases hg
        · simp at ho; subst ho; cases hg; exact hu
        · simp at ho; subst ho; cases hg; exact hu
        · simp at ho; subst ho; cases hg; exact hu
        · simp at ho; subst ho; cases hg; exact hu
        · simp at ho; subst ho; cases hg; exact hu
        · simp at ho; subst ho; cases hg; exact hu
        · simp at ho; subst ho; cases hg
      case s4 =>
        intro i o ac wb K' ho hi hA hB hdep hK
        have sv0 : ac.tmps[0]?.getD undef = .string a := hA.sl (t := 0) (by decide)
        have sv1 : ac.tmps[1]?.getD undef = .string b := hA.sl (t := 1) (by decide)
        have sv5 : ac.tmps[5]?.getD undef = .func (Fn.func 6) #[] #[] := hA.sl (t := 5) (by decide)
        have sv6 : ac.tmps[6]?.getD undef = .pointer (some ⟨u.heap.size, 0, none⟩) := hA.sl (t := 6) (by decide)
        have sv7 : ac.tmps[7]?.getD undef = .pointer (some ⟨u.heap.size + 1, 0, none⟩) := hA.sl (t := 7) (by decide)
        have p0 := cells_frame hB p0
        have p1 := cells_frame hB p1
        have p2 := cells_frame hB p2
        have p3 := cells_frame hB p3
        have p4 := cells_frame hB p4
        have p5 := cells_frame hB p5
        have q0 := cells_frame hB q0
        have q1 := cells_frame hB q1
        have q2 := cells_frame hB q2
        have q3 := cells_frame hB q3
        have q4 := cells_frame hB q4
        have q5 := cells_frame hB q5
        rcases (by omega : i = 0 ∨ i = 1 ∨ i = 2 ∨ i = 3 ∨ i = 4 ∨ i = 5 ∨ i = 6 ∨ i = 7 ∨ i = 8 ∨ i = 9 ∨ i = 10 ∨ i = 11 ∨ i = 12 ∨ i = 13 ∨ i = 14 ∨ i = 15 ∨ i = 16 ∨ i = 17 ∨ i = 18 ∨ i = 19 ∨ i = 20 ∨ i = 21 ∨ i = 22 ∨ i = 23 ∨ i = 24 ∨ i = 25 ∨ i = 26 ∨ i = 27 ∨ i = 28 ∨ i = 29 ∨ i = 30) with rfl | rfl | rfl | rfl | rfl | rfl | rfl | rfl | rfl | rfl | rfl | rfl | rfl | rfl | rfl | rfl | rfl | rfl | rfl | rfl | rfl | rfl | rfl | rfl | rfl | rfl | rfl | rfl | rfl | rfl | rfl
        · simp at ho
          subst ho
          clear hdep hA
          go_simp
          exact hK _ wb (Below.refl _ _) rfl
        · simp at ho
          subst ho
          clear hdep hA
          go_simp
          exact hK _ wb (Below.refl _ _) rfl
        · simp at ho
          subst ho
          clear hdep hA
          go_simp
          exact hK _ wb (Below.refl _ _) rfl
        · simp at ho
          subst ho
          have y1 : ac.tmps[35]?.getD undef = .agg #[.int .i64 3, .bool false, .int .i64 0, .string a, .slice none 0 0, .slice none 0 0] := hdep { on := 1, ground := .data } (by simp) rfl
          have y2 : ac.tmps[36]?.getD undef = .agg #[.int .i64 3, .bool false, .int .i64 0, .string b, .slice none 0 0, .slice none 0 0] := hdep { on := 2, ground := .data } (by simp) rfl
          clear hdep hA
          go_simp
          exact hK _ _ ((Below.refl _ _).alloc (Nat.le_refl _) _) ⟨wb.heap.size, _, rfl, two_values (lies_str wb a ha) (lies_str wb b hb0)⟩
        · simp at ho
          subst ho
          have y0 : ac.tmps[34]?.getD undef = .func (Fn.func 6) #[] #[] := hdep { on := 0, ground := .data } (by simp) rfl
          obtain ⟨sby3, cly3, y3, hSy3⟩ := hdep { on := 3, ground := .data } (by simp) rfl
          have y3 : ac.tmps[37]?.getD undef = _ := y3
          clear hdep hA
          go_simp
          refine (PRI.out wb (bstep HB2.out hB HB2.out.size) sby3 cly3 hSy3).mono ?_
          rintro e w5 ⟨rfl, hb5⟩
          exact hK _ w5 hb5 rfl
        · simp at ho
          subst ho
          clear hdep hA
          go_simp
          exact hK _ wb (Below.refl _ _) rfl
        · simp at ho
          subst ho
          clear hdep hA
          go_simp
          exact hK _ wb (Below.refl _ _) rfl
        · simp at ho
          subst ho
          have y5 : ac.tmps[39]?.getD undef = .string a := hdep { on := 5, ground := .data } (by simp) rfl
          have y6 : ac.tmps[40]?.getD undef = .string b := hdep { on := 6, ground := .data } (by simp) rfl
          clear hdep hA
          go_simp
          rw [if_neg (by omega)]
          go_simp
          exact hK _ wb (Below.refl _ _) rfl
        · simp at ho
          subst ho
          have y4 : ac.tmps[38]?.getD undef = .string (a ++ b) := hdep { on := 4, ground := .data } (by simp) rfl
          have y7 : ac.tmps[41]?.getD undef = .string (a ++ b) := hdep { on := 7, ground := .data } (by simp) rfl
          clear hdep hA
          go_simp
          first | exact hK _ wb (Below.refl _ _) rfl | exact hK _ wb (Below.refl _ _) (by simp)
        · simp at ho
          subst ho
          have y8 : ac.tmps[42]?.getD undef = .bool false := hdep { on := 8, ground := .data } (by simp) rfl
          clear hdep hA
          go_simp
          exact hK _ wb (Below.refl _ _) rfl
        · simp at ho
          subst ho
          clear hdep hA
          go_simp
          exact hK _ wb (Below.refl _ _) rfl
        · simp at ho
          subst ho
          clear hdep hA
          go_simp
          refine (tStr_any _ wb).mono ?_
          rintro e w5 ⟨rfl, hb5⟩
          exact hK _ w5 hb5 rfl
        · simp at ho
          subst ho
          clear hdep hA
          go_simp
          exact hK _ wb (Below.refl _ _) rfl
        · simp at ho
          subst ho
          clear hdep hA
          go_simp
          exact hK _ wb (Below.refl _ _) rfl
        · simp at ho
          subst ho
          have y12 : ac.tmps[46]?.getD undef = .agg #[.int .i64 3, .bool false, .int .i64 0, .string a, .slice none 0 0, .slice none 0 0] := hdep { on := 12, ground := .data } (by simp) rfl
          have y13 : ac.tmps[47]?.getD undef = .agg #[.int .i64 3, .bool false, .int .i64 0, .string b, .slice none 0 0, .slice none 0 0] := hdep { on := 13, ground := .data } (by simp) rfl
          clear hdep hA
          go_simp
          exact hK _ _ ((Below.refl _ _).alloc (Nat.le_refl _) _) ⟨wb.heap.size, _, rfl, two_values (lies_str wb a ha) (lies_str wb b hb0)⟩
        · simp at ho
          subst ho
          obtain ⟨sby14, cly14, y14, hSy14⟩ := hdep { on := 14, ground := .data } (by simp) rfl
          have y14 : ac.tmps[48]?.getD undef = _ := y14
          clear hdep hA
          go_simp
          refine (tList_any hSy14 wb (Below.refl _ _)).mono ?_
          rintro e w5 ⟨ds, rfl, hL, hb5⟩
          exact hK _ w5 hb5 ⟨ds, rfl, hL.weaken fun _ _ => trivial⟩
        · simp at ho
          subst ho
          have y11 : ac.tmps[45]?.getD undef = .agg #[.int .i64 3, .bool false, .int .i64 0, .string ⟨#[]⟩, .slice none 0 0, .slice none 0 0] := hdep { on := 11, ground := .data } (by simp) rfl
          obtain ⟨dsy15, y15, hLy15⟩ := hdep { on := 15, ground := .data } (by simp) rfl
          obtain ⟨d0, d1, d2, d3, d4, d4l, d4c, d5, d5l, d5c, rfl⟩ := hLy15.six
          have y15 : ac.tmps[49]?.getD undef = _ := y15
          clear hdep hA
          go_simp
          exact hK _ _ ((Below.refl _ _).alloc (Nat.le_refl _) _) ⟨wb.heap.size, rfl, JoinV.new hLy15⟩
        · simp at ho
          subst ho
          have y10 : ac.tmps[44]?.getD undef = .func (Fn.func 6) #[] #[] := hdep { on := 10, ground := .data } (by simp) rfl
          obtain ⟨sby16, y16, hSy16⟩ := hdep { on := 16, ground := .data } (by simp) rfl
          have y16 : ac.tmps[50]?.getD undef = _ := y16
          clear hdep hA
          go_simp
          refine (JOI.out wb (bstep HB2.out hB HB2.out.size) sby16 hSy16).mono ?_
          rintro e w5 ⟨rfl, hb5⟩
          exact hK _ w5 hb5 rfl
        · simp at ho
          subst ho
          clear hdep hA
          go_simp
          exact hK _ wb (Below.refl _ _) rfl
        · simp at ho
          subst ho
          clear hdep hA
          go_simp
          exact hK _ wb (Below.refl _ _) rfl
        · simp at ho
          subst ho
          have y18 : ac.tmps[52]?.getD undef = .string a := hdep { on := 18, ground := .data } (by simp) rfl
          have y19 : ac.tmps[53]?.getD undef = .string b := hdep { on := 19, ground := .data } (by simp) rfl
          clear hdep hA
          go_simp
          rw [if_neg (by omega)]
          go_simp
          exact hK _ wb (Below.refl _ _) rfl
        · simp at ho
          subst ho
          have y17 : ac.tmps[51]?.getD undef = .string (a ++ b) := hdep { on := 17, ground := .data } (by simp) rfl
          have y20 : ac.tmps[54]?.getD undef = .string (a ++ b) := hdep { on := 20, ground := .data } (by simp) rfl
          clear hdep hA
          go_simp
          first | exact hK _ wb (Below.refl _ _) rfl | exact hK _ wb (Below.refl _ _) (by simp)
        · simp at ho
          subst ho
          have y9 : ac.tmps[43]?.getD undef = .bool false := hdep { on := 9, ground := .data } (by simp) rfl
          have y21 : ac.tmps[55]?.getD undef = .bool false := hdep { on := 21, ground := .data } (by simp) rfl
          clear hdep hA
          go_simp
          exact hK _ wb (Below.refl _ _) rfl
        · simp at ho
          subst ho
          have y22 : ac.tmps[56]?.getD undef = .bool false := hdep { on := 22, ground := .data } (by simp) rfl
          clear hdep hA
          go_simp
          exact hK _ wb (Below.refl _ _) rfl
        · simp at ho
          subst ho
          clear hdep hA
          go_simp
          exact hK _ wb (Below.refl _ _) rfl
        · simp at ho
          subst ho
          clear hdep hA
          go_simp
          exact hK _ wb (Below.refl _ _) rfl
        · simp at ho
          subst ho
          have y25 : ac.tmps[59]?.getD undef = .agg #[.int .i64 3, .bool false, .int .i64 0, .string a, .slice none 0 0, .slice none 0 0] := hdep { on := 25, ground := .data } (by simp) rfl
          clear hdep hA
          go_simp
          exact hK _ _ ((Below.refl _ _).alloc (Nat.le_refl _) _) ⟨wb.heap.size, rfl, Box6.new wb _ 27, by simp⟩
        · simp at ho
          subst ho
          have y24 : ac.tmps[58]?.getD undef = .func (Fn.func 6) #[] #[] := hdep { on := 24, ground := .data } (by simp) rfl
          obtain ⟨sby26, y26, hSy26, hly26⟩ := hdep { on := 26, ground := .data } (by simp) rfl
          have y26 : ac.tmps[60]?.getD undef = _ := y26
          clear hdep hA
          go_simp
          refine (TOS.out wb (bstep HB2.out hB HB2.out.size) sby26 hSy26 hly26).mono ?_
          rintro e w5 ⟨rfl, hb5⟩
          exact hK _ w5 hb5 rfl
        · simp at ho
          subst ho
          clear hdep hA
          go_simp
          exact hK _ wb (Below.refl _ _) rfl
        · simp at ho
          subst ho
          have y27 : ac.tmps[61]?.getD undef = .string a := hdep { on := 27, ground := .data } (by simp) rfl
          have y28 : ac.tmps[62]?.getD undef = .string a := hdep { on := 28, ground := .data } (by simp) rfl
          clear hdep hA
          go_simp
          first | exact hK _ wb (Below.refl _ _) rfl | exact hK _ wb (Below.refl _ _) (by simp)
        · simp at ho
          subst ho
          have y23 : ac.tmps[57]?.getD undef = .bool false := hdep { on := 23, ground := .data } (by simp) rfl
          have y29 : ac.tmps[63]?.getD undef = .bool false := hdep { on := 29, ground := .data } (by simp) rfl
          clear hdep hA
          go_simp
          exact hK _ wb (Below.refl _ _) rfl
      case s5 =>
        intro ac wn hA hB hU
        have hs : slots 31 (fun i => match i with | 0 => 34 | 1 => 35 | 2 => 36 | 3 => 37 | 4 => 38 | 5 => 39 | 6 => 40 | 7 => 41 | 8 => 42 | 9 => 43 | 10 => 44 | 11 => 45 | 12 => 46 | 13 => 47 | 14 => 48 | 15 => 49 | 16 => 50 | 17 => 51 | 18 => 52 | 19 => 53 | 20 => 54 | 21 => 55 | 22 => 56 | 23 => 57 | 24 => 58 | 25 => 59 | 26 => 60 | 27 => 61 | 28 => 62 | 29 => 63 | 30 => 64 | _ => 0) = [34, 35, 36, 37, 38, 39, 40, 41, 42, 43, 44, 45, 46, 47, 48, 49, 50, 51, 52, 53, 54, 55, 56, 57, 58, 59, 60, 61, 62, 63, 64] := by rfl
        rw [hs] at hA
        have hac := hA.act (fun t ht => by
          have h8 : t = 34 ∨ t = 35 ∨ t = 36 ∨ t = 37 ∨ t = 38 ∨ t = 39 ∨ t = 40 ∨ t = 41 ∨ t = 42 ∨ t = 43 ∨ t = 44 ∨ t = 45 ∨ t = 46 ∨ t = 47 ∨ t = 48 ∨ t = 49 ∨ t = 50 ∨ t = 51 ∨ t = 52 ∨ t = 53 ∨ t = 54 ∨ t = 55 ∨ t = 56 ∨ t = 57 ∨ t = 58 ∨ t = 59 ∨ t = 60 ∨ t = 61 ∨ t = 62 ∨ t = 63 ∨ t = 64 := by simpa using ht
          rcases h8 with rfl | rfl | rfl | rfl | rfl | rfl | rfl | rfl | rfl | rfl | rfl | rfl | rfl | rfl | rfl | rfl | rfl | rfl | rfl | rfl | rfl | rfl | rfl | rfl | rfl | rfl | rfl | rfl | rfl | rfl | rfl <;> exact Nat.lt_of_lt_of_le (by decide : _ < 134) (Nat.le_refl 134))
        rw [List.foldl_cons, List.foldl_cons, List.foldl_cons, List.foldl_cons, List.foldl_cons, List.foldl_cons, List.foldl_cons, List.foldl_cons, List.foldl_cons, List.foldl_cons, List.foldl_cons, List.foldl_cons, List.foldl_cons, List.foldl_cons, List.foldl_cons, List.foldl_cons, List.foldl_cons, List.foldl_cons, List.foldl_cons, List.foldl_cons, List.foldl_cons, List.foldl_cons, List.foldl_cons, List.foldl_cons, List.foldl_cons, List.foldl_cons, List.foldl_cons, List.foldl_cons, List.foldl_cons, List.foldl_cons, List.foldl_cons, List.foldl_nil] at hac
        have HB6 := Lib.hid (bstep HB2.out hB HB2.out.size)
        have z64 : sl ac 64 = .bool false := hU 30 (by omega)
        clear hU hB
        generalize sl ac 34 = x34 at hac z64
        generalize sl ac 35 = x35 at hac z64
        generalize sl ac 36 = x36 at hac z64
        generalize sl ac 37 = x37 at hac z64
        generalize sl ac 38 = x38 at hac z64
        generalize sl ac 39 = x39 at hac z64
        generalize sl ac 40 = x40 at hac z64
        generalize sl ac 41 = x41 at hac z64
        generalize sl ac 42 = x42 at hac z64
        generalize sl ac 43 = x43 at hac z64
        generalize sl ac 44 = x44 at hac z64
        generalize sl ac 45 = x45 at hac z64
        generalize sl ac 46 = x46 at hac z64
        generalize sl ac 47 = x47 at hac z64
        generalize sl ac 48 = x48 at hac z64
        generalize sl ac 49 = x49 at hac z64
        generalize sl ac 50 = x50 at hac z64
        generalize sl ac 51 = x51 at hac z64
        generalize sl ac 52 = x52 at hac z64
        generalize sl ac 53 = x53 at hac z64
        generalize sl ac 54 = x54 at hac z64
        generalize sl ac 55 = x55 at hac z64
        generalize sl ac 56 = x56 at hac z64
        generalize sl ac 57 = x57 at hac z64
        generalize sl ac 58 = x58 at hac z64
        generalize sl ac 59 = x59 at hac z64
        generalize sl ac 60 = x60 at hac z64
        generalize sl ac 61 = x61 at hac z64
        generalize sl ac 62 = x62 at hac z64
        generalize sl ac 63 = x63 at hac z64
        generalize sl ac 64 = x64 at hac z64
        subst z64
        subst hac
        simp only [Act.put, List.setIfInBounds_toArray, List.set_cons_succ, List.set_cons_zero]
        generalize hwn : wn = w6 at *
        clear hwn
        go_upto_region 7 with fail
        clear p0 p1 p2 p3 p4 p5 q0 q1 q2 q3 q4 q5
        obtain ⟨p0, p1, p2, p3, p4, p5⟩ := (B1.out.later HB6.out (by omega)).six
        obtain ⟨q0, q1, q2, q3, q4, q5⟩ := (B2.out.later HB6.out (by omega)).six
        refine wp_region_specs3 w6 10 (fun i => match i with | 0 => 65 | 1 => 66 | 2 => 67 | 3 => 68 | 4 => 69 | 5 => 70 | 6 => 71 | 7 => 72 | 8 => 8 | 9 => 9 | _ => 0) (fun i x wx => match i with | 0 => x = .func (Fn.func 6) #[] #[] | 1 => x = .agg #[.int .i64 3, .bool false, .int .i64 0, .string a, .slice none 0 0, .slice none 0 0] | 2 => ∃ sb, x = .slice (some ⟨sb, 0, none⟩) 1 1 ∧ Box6 wx sb #[.int .i64 3, .bool false, .int .i64 0, .string a, .slice none 0 0, .slice none 0 0] ∧ sb < wx.heap.size | 3 => x = .string low | 4 => x = .func (Fn.func 6) #[] #[] | 5 => x = .agg #[.int .i64 3, .bool false, .int .i64 0, .string a, .slice none 0 0, .slice none 0 0] | 6 => ∃ sb, x = .slice (some ⟨sb, 0, none⟩) 1 1 ∧ Box6 wx sb #[.int .i64 3, .bool false, .int .i64 0, .string a, .slice none 0 0, .slice none 0 0] ∧ sb < wx.heap.size | 7 => x = .string tri | 8 => x = .string low | 9 => x = .string tri | _ => True) (by kernel_rfl) (by kernel_rfl) ?s1 (Below.refl _ _) ?s2 ?s3 ?s4 ?s5
        case s1 => intro i hi; rcases (by omega : i = 0 ∨ i = 1 ∨ i = 2 ∨ i = 3 ∨ i = 4 ∨ i = 5 ∨ i = 6 ∨ i = 7 ∨ i = 8 ∨ i = 9) with rfl | rfl | rfl | rfl | rfl | rfl | rfl | rfl | rfl | rfl <;> exact Nat.lt_of_lt_of_le (by decide : _ < 134) (Nat.le_refl 134)
        case s2 =>
          intro i x w1 w2 hb hU
          match i, hU with
          | 2, ⟨sb, e, hS, hl⟩ => exact ⟨sb, e, hS.later hb hl, by have := hb.size; omega⟩
          | 3, h => exact h
          | 6, ⟨sb, e, hS, hl⟩ => exact ⟨sb, e, hS.later hb hl, by have := hb.size; omega⟩
          | 7, h => exact h
          | 0, h | 1, h | 4, h | 5, h | 8, h | 9, h => exact h
          | (n + 10), _ => trivial
        case s3 =>
          intro i o g b ho hg x w hu
          have hi : i < 10 := (Array.getElem?_eq_some_iff.1 ho).1
          rcases (by omega : i = 0 ∨ i = 1 ∨ i = 2 ∨ i = 3 ∨ i = 4 ∨ i = 5 ∨ i = 6 ∨ i = 7 ∨ i = 8 ∨ i = 9) with rfl | rfl | rfl | rfl | rfl | rfl | rfl | rfl | rfl | rfl
          · simp at ho; subst ho; cases hg
          · simp at ho; subst ho; cases hg
          · simp at ho; subst ho; cases hg
          · simp at ho; subst ho; cases hg
          · simp at ho; subst ho; cases hg
          · simp at ho; subst ho; cases hg
          · simp at ho; subst ho; cases hg
          · simp at ho; subst ho; cases hg
          · simp at ho; subst ho; cases hg
          · simp at ho; subst ho; cases hg
        case s4 =>
          intro i o ac wb K' ho hi hA hB hdep hK
          have sv0 : ac.tmps[0]?.getD undef = .string a := hA.sl (t := 0) (by decide)
          have sv1 : ac.tmps[1]?.getD undef = .string b := hA.sl (t := 1) (by decide)
          have sv5 : ac.tmps[5]?.getD undef = .func (Fn.func 6) #[] #[] := hA.sl (t := 5) (by decide)
          have sv6 : ac.tmps[6]?.getD undef = .pointer (some ⟨u.heap.size, 0, none⟩) := hA.sl (t := 6) (by decide)
          have sv7 : ac.tmps[7]?.getD undef = .pointer (some ⟨u.heap.size + 1, 0, none⟩) := hA.sl (t := 7) (by decide)
          have p0 := cells_frame hB p0
          have p1 := cells_frame hB p1
          have p2 := cells_frame hB p2
          have p3 := cells_frame hB p3
          have p4 := cells_frame hB p4
          have p5 := cells_frame hB p5
          have q0 := cells_frame hB q0
          have q1 := cells_frame hB q1
          have q2 := cells_frame hB q2
          have q3 := cells_frame hB q3
          have q4 := cells_frame hB q4
          have q5 := cells_frame hB q5
          rcases (by omega : i = 0 ∨ i = 1 ∨ i = 2 ∨ i = 3 ∨ i = 4 ∨ i = 5 ∨ i = 6 ∨ i = 7 ∨ i = 8 ∨ i = 9) with rfl | rfl | rfl | rfl | rfl | rfl | rfl | rfl | rfl | rfl
          · simp at ho
            subst ho
            clear hdep hA
            go_simp
            exact hK _ wb (Below.refl _ _) rfl
          · simp at ho
            subst ho
            clear hdep hA
            go_simp
            exact hK _ wb (Below.refl _ _) rfl
          · simp at ho
            subst ho
            have y1 : ac.tmps[66]?.getD undef = .agg #[.int .i64 3, .bool false, .int .i64 0, .string a, .slice none 0 0, .slice none 0 0] := hdep { on := 1, ground := .data } (by simp) rfl
            clear hdep hA
            go_simp
            exact hK _ _ ((Below.refl _ _).alloc (Nat.le_refl _) _) ⟨wb.heap.size, rfl, Box6.new wb _ 27, by simp⟩
          · simp at ho
            subst ho
            have y0 : ac.tmps[65]?.getD undef = .func (Fn.func 6) #[] #[] := hdep { on := 0, ground := .data } (by simp) rfl
            obtain ⟨sby2, y2, hSy2, hly2⟩ := hdep { on := 2, ground := .data } (by simp) rfl
            have y2 : ac.tmps[67]?.getD undef = _ := y2
            clear hdep hA
            go_simp
            refine (LOW.out wb (bstep HB6.out hB HB6.out.size) sby2 hSy2 hly2).mono ?_
            rintro e w5 ⟨rfl, hb5⟩
            exact hK _ w5 hb5 rfl
          · simp at ho
            subst ho
            clear hdep hA
            go_simp
            exact hK _ wb (Below.refl _ _) rfl
          · simp at ho
            subst ho
            clear hdep hA
            go_simp
            exact hK _ wb (Below.refl _ _) rfl
          · simp at ho
            subst ho
            have y5 : ac.tmps[70]?.getD undef = .agg #[.int .i64 3, .bool false, .int .i64 0, .string a, .slice none 0 0, .slice none 0 0] := hdep { on := 5, ground := .data } (by simp) rfl
            clear hdep hA
            go_simp
            exact hK _ _ ((Below.refl _ _).alloc (Nat.le_refl _) _) ⟨wb.heap.size, rfl, Box6.new wb _ 27, by simp⟩
          · simp at ho
            subst ho
            have y4 : ac.tmps[69]?.getD undef = .func (Fn.func 6) #[] #[] := hdep { on := 4, ground := .data } (by simp) rfl
            obtain ⟨sby6, y6, hSy6, hly6⟩ := hdep { on := 6, ground := .data } (by simp) rfl
            have y6 : ac.tmps[71]?.getD undef = _ := y6
            clear hdep hA
            go_simp
            refine (TRI.out wb (bstep HB6.out hB HB6.out.size) sby6 hSy6 hly6).mono ?_
            rintro e w5 ⟨rfl, hb5⟩
            exact hK _ w5 hb5 rfl
          · simp at ho
            subst ho
            have y3 : ac.tmps[68]?.getD undef = .string low := hdep { on := 3, ground := .data } (by simp) rfl
            clear hdep hA
            go_simp
            exact hK _ wb (Below.refl _ _) rfl
          · simp at ho
            subst ho
            have y7 : ac.tmps[72]?.getD undef = .string tri := hdep { on := 7, ground := .data } (by simp) rfl
            clear hdep hA
            go_simp
            exact hK _ wb (Below.refl _ _) rfl
        case s5 =>
          intro ac wn hA hB hU
          have hs : slots 10 (fun i => match i with | 0 => 65 | 1 => 66 | 2 => 67 | 3 => 68 | 4 => 69 | 5 => 70 | 6 => 71 | 7 => 72 | 8 => 8 | 9 => 9 | _ => 0) = [65, 66, 67, 68, 69, 70, 71, 72, 8, 9] := by rfl
          rw [hs] at hA
          have hac := hA.act (fun t ht => by
            have h8 : t = 65 ∨ t = 66 ∨ t = 67 ∨ t = 68 ∨ t = 69 ∨ t = 70 ∨ t = 71 ∨ t = 72 ∨ t = 8 ∨ t = 9 := by simpa using ht
            rcases h8 with rfl | rfl | rfl | rfl | rfl | rfl | rfl | rfl | rfl | rfl <;> exact Nat.lt_of_lt_of_le (by decide : _ < 134) (Nat.le_refl 134))
          rw [List.foldl_cons, List.foldl_cons, List.foldl_cons, List.foldl_cons, List.foldl_cons, List.foldl_cons, List.foldl_cons, List.foldl_cons, List.foldl_cons, List.foldl_cons, List.foldl_nil] at hac
          have HB7 := Lib.hid (bstep HB6.out hB HB6.out.size)
          have z8 : sl ac 8 = .string low := hU 8 (by omega)
          have z9 : sl ac 9 = .string tri := hU 9 (by omega)
          clear hU hB
          generalize sl ac 65 = x65 at hac z8 z9
          generalize sl ac 66 = x66 at hac z8 z9
          generalize sl ac 67 = x67 at hac z8 z9
          generalize sl ac 68 = x68 at hac z8 z9
          generalize sl ac 69 = x69 at hac z8 z9
          generalize sl ac 70 = x70 at hac z8 z9
          generalize sl ac 71 = x71 at hac z8 z9
          generalize sl ac 72 = x72 at hac z8 z9
          generalize sl ac 8 = x8 at hac z8 z9
          generalize sl ac 9 = x9 at hac z8 z9
          subst z8
          subst z9
          subst hac
          simp only [Act.put, List.setIfInBounds_toArray, List.set_cons_succ, List.set_cons_zero]
          generalize hwn : wn = w7 at *
          clear hwn
          go_upto_region 8 with fail
          clear p0 p1 p2 p3 p4 p5 q0 q1 q2 q3 q4 q5
          obtain ⟨p0, p1, p2, p3, p4, p5⟩ := (B1.out.later HB7.out (by omega)).six
          obtain ⟨q0, q1, q2, q3, q4, q5⟩ := (B2.out.later HB7.out (by omega)).six
          refine wp_region_specs3 w7 38 (fun i => match i with | 0 => 73 | 1 => 74 | 2 => 75 | 3 => 76 | 4 => 77 | 5 => 78 | 6 => 79 | 7 => 80 | 8 => 81 | 9 => 82 | 10 => 83 | 11 => 84 | 12 => 85 | 13 => 86 | 14 => 87 | 15 => 88 | 16 => 89 | 17 => 90 | 18 => 91 | 19 => 92 | 20 => 93 | 21 => 94 | 22 => 95 | 23 => 96 | 24 => 97 | 25 => 98 | 26 => 99 | 27 => 100 | 28 => 101 | 29 => 102 | 30 => 103 | 31 => 104 | 32 => 105 | 33 => 106 | 34 => 107 | 35 => 108 | 36 => 109 | 37 => 110 | _ => 0) (fun i x wx => match i with | 0 => x = .func (Fn.func 6) #[] #[] | 1 => x = .func (Fn.func 6) #[] #[] | 2 => x = .agg #[.int .i64 3, .bool false, .int .i64 0, .string a, .slice none 0 0, .slice none 0 0] | 3 => ∃ sb, x = .slice (some ⟨sb, 0, none⟩) 1 1 ∧ Box6 wx sb #[.int .i64 3, .bool false, .int .i64 0, .string a, .slice none 0 0, .slice none 0 0] ∧ sb < wx.heap.size | 4 => x = .string upp | 5 => x = .agg #[.int .i64 3, .bool false, .int .i64 0, .string upp, .slice none 0 0, .slice none 0 0] | 6 => ∃ sb, x = .slice (some ⟨sb, 0, none⟩) 1 1 ∧ Box6 wx sb #[.int .i64 3, .bool false, .int .i64 0, .string upp, .slice none 0 0, .slice none 0 0] ∧ sb < wx.heap.size | 7 => x = .string low | 8 => x = .string low | 9 => x = .bool false | 10 => x = .bool false | 11 => x = .func (Fn.func 6) #[] #[] | 12 => x = .string tri | 13 => x = .agg #[.int .i64 3, .bool false, .int .i64 0, .string tri, .slice none 0 0, .slice none 0 0] | 14 => ∃ sb, x = .slice (some ⟨sb, 0, none⟩) 1 1 ∧ Box6 wx sb #[.int .i64 3, .bool false, .int .i64 0, .string tri, .slice none 0 0, .slice none 0 0] ∧ sb < wx.heap.size | 15 => x = .string tri | 16 => x = .string tri | 17 => x = .bool false | 18 => x = .bool false | 19 => x = .bool false | 20 => x = .func (Fn.func 6) #[] #[] | 21 => x = .agg #[.int .i64 2, .bool false, .int .i64 0, .string ⟨#[]⟩, .slice none 0 0, .slice none 0 0] | 22 => x = .agg #[.int .i64 3, .bool false, .int .i64 0, .string a, .slice none 0 0, .slice none 0 0] | 23 => ∃ sb, x = .slice (some ⟨sb, 0, none⟩) 2 2 ∧ TwoV wx sb (.int .i64 2) (.bool false) (.int .i64 0) (.string ⟨#[]⟩) (.slice none 0 0) (.slice none 0 0) (.int .i64 3) (.bool false) (.int .i64 0) (.string a) (.slice none 0 0) (.slice none 0 0) | 24 => x = .string a | 25 => x = .string a | 26 => x = .bool false | 27 => x = .bool false | 28 => x = .bool false | 29 => x = .func (Fn.func 6) #[] #[] | 30 => x = .agg #[.int .i64 2, .bool false, .int .i64 0, .string ⟨#[]⟩, .slice none 0 0, .slice none 0 0] | 31 => x = .agg #[.int .i64 3, .bool false, .int .i64 0, .string a, .slice none 0 0, .slice none 0 0] | 32 => ∃ sb, x = .slice (some ⟨sb, 0, none⟩) 2 2 ∧ TwoV wx sb (.int .i64 2) (.bool false) (.int .i64 0) (.string ⟨#[]⟩) (.slice none 0 0) (.slice none 0 0) (.int .i64 3) (.bool false) (.int .i64 0) (.string a) (.slice none 0 0) (.slice none 0 0) | 33 => x = .string (⟨#[10]⟩ ++ a) | 34 => x = .string a | 35 => x = .string (⟨#[10]⟩ ++ a) | 36 => x = .bool false | 37 => x = .bool false | _ => True) (by kernel_rfl) (by kernel_rfl) ?s1 (Below.refl _ _) ?s2 ?s3 ?s4 ?s5
          case s1 => intro i hi; rcases (by omega : i = 0 ∨ i = 1 ∨ i = 2 ∨ i = 3 ∨ i = 4 ∨ i = 5 ∨ i = 6 ∨ i = 7 ∨ i = 8 ∨ i = 9 ∨ i = 10 ∨ i = 11 ∨ i = 12 ∨ i = 13 ∨ i = 14 ∨ i = 15 ∨ i = 16 ∨ i = 17 ∨ i = 18 ∨ i = 19 ∨ i = 20 ∨ i = 21 ∨ i = 22 ∨ i = 23 ∨ i = 24 ∨ i = 25 ∨ i = 26 ∨ i = 27 ∨ i = 28 ∨ i = 29 ∨ i = 30 ∨ i = 31 ∨ i = 32 ∨ i = 33 ∨ i = 34 ∨ i = 35 ∨ i = 36 ∨ i = 37) with rfl | rfl | rfl | rfl | rfl | rfl | rfl | rfl | rfl | rfl | rfl | rfl | rfl | rfl | rfl | rfl | rfl | rfl | rfl | rfl | rfl | rfl | rfl | rfl | rfl | rfl | rfl | rfl | rfl | rfl | rfl | rfl | rfl | rfl | rfl | rfl | rfl | rfl <;> exact Nat.lt_of_lt_of_le (by decide : _ < 134) (Nat.le_refl 134)
          case s2 =>
            intro i x w1 w2 hb hU
            match i, hU with
            | 3, ⟨sb, e, hS, hl⟩ => exact ⟨sb, e, hS.later hb hl, by have := hb.size; omega⟩
            | 4, h => exact h
            | 5, h => exact h
            | 6, ⟨sb, e, hS, hl⟩ => exact ⟨sb, e, hS.later hb hl, by have := hb.size; omega⟩
            | 7, h => exact h
            | 13, h => exact h
            | 14, ⟨sb, e, hS, hl⟩ => exact ⟨sb, e, hS.later hb hl, by have := hb.size; omega⟩
            | 15, h => exact h
            | 21, h => exact h
            | 23, ⟨sb, e, hS⟩ => exact ⟨sb, e, hS.later hb⟩
            | 24, h => exact h
            | 30, h => exact h
            | 32, ⟨sb, e, hS⟩ => exact ⟨sb, e, hS.later hb⟩
            | 33, h => exact h
            | 0, h | 1, h | 2, h | 8, h | 9, h | 10, h | 11, h | 12, h | 16, h | 17, h | 18, h | 19, h | 20, h | 22, h | 25, h | 26, h | 27, h | 28, h | 29, h | 31, h | 34, h | 35, h | 36, h | 37, h => exact h
            | (n + 38), _ => trivial
          case s3 =>
            intro i o g b ho hg x w hu
            have hi : i < 38 := (Array.getElem?_eq_some_iff.1 ho).1
            rcases (by omega : i = 0 ∨ i = 1 ∨ i = 2 ∨ i = 3 ∨ i = 4 ∨ i = 5 ∨ i = 6 ∨ i = 7 ∨ i = 8 ∨ i = 9 ∨ i = 10 ∨ i = 11 ∨ i = 12 ∨ i = 13 ∨ i = 14 ∨ i = 15 ∨ i = 16 ∨ i = 17 ∨ i = 18 ∨ i = 19 ∨ i = 20 ∨ i = 21 ∨ i = 22 ∨ i = 23 ∨ i = 24 ∨ i = 25 ∨ i = 26 ∨ i = 27 ∨ i = 28 ∨ i = 29 ∨ i = 30 ∨ i = 31 ∨ i = 32 ∨ i = 33 ∨ i = 34 ∨ i = 35 ∨ i = 36 ∨ i = 37) with rfl | rfl | rfl | rfl | rfl | rfl | rfl | rfl | rfl | rfl | rfl | rfl | rfl | rfl | rfl | rfl | rfl | rfl | rfl | rfl | rfl | rfl | rfl | rfl | rfl | rfl | rfl | rfl | rfl | rfl | rfl | rfl | rfl | rfl | rfl | rfl | rfl | rfl
            · simp at ho; subst ho; cases hg
            · simp at ho; subst ho; cases hg
            · simp at ho; subst ho; cases hg
            · simp at ho; subst ho; cases hg
            · simp at ho; subst ho; cases hg
            · simp at ho; subst ho; cases hg
            · simp at ho; subst ho; cases hg
            · simp at ho; subst ho; cases hg
            · simp at ho; subst ho; cases hg
            · simp at ho; subst ho; cases hg
            · simp at ho; subst ho; cases hg
            · simp at ho; subst ho; cases hg; exact hu
            · simp at ho; subst ho; cases hg; exact hu
            · simp at ho; subst ho; cases hg; exact hu
            · simp at ho; subst ho; cases hg; exact hu
            · simp at ho; subst ho; cases hg; exact hu
            · simp at ho; subst ho; cases hg; exact hu
            · simp at ho; subst ho; cases hg; exact hu
            · simp at ho; subst ho; cases hg
            · simp at ho; subst ho; cases hg
            · simp at ho; subst ho; cases hg; exact hu
            · simp at ho; subst ho; cases hg; exact hu
            · simp at ho; subst ho; cases hg; exact hu
            · simp at ho; subst ho; cases hg; exact hu
            · simp at ho; subst ho; cases hg; exact hu
            · simp at ho; subst ho; cases hg; exact hu
            · simp at ho; subst ho; cases hg; exact hu
            · simp at ho; subst ho; cases hg
            · simp at ho; subst ho; cases hg
            · simp at ho; subst ho; cases hg; exact hu
            · simp at ho; subst ho; cases hg; exact hu
            · simp at ho; subst ho; cases hg; exact hu
            · simp at ho; subst ho; cases hg; exact hu
            · simp at ho; subst ho; cases hg; exact hu
            · simp at ho; subst ho; cases hg; exact hu
            · simp at ho; subst ho; cases hg; exact hu
            · simp at ho; subst ho; cases hg; exact hu
            · simp at ho; subst ho; cases hg
          case s4 =>
            intro i o ac wb K' ho hi hA hB hdep hK
            have sv0 : ac.tmps[0]?.getD undef = .string a := hA.sl (t := 0) (by decide)
            have sv1 : ac.tmps[1]?.getD undef = .string b := hA.sl (t := 1) (by decide)
            have sv5 : ac.tmps[5]?.getD undef = .func (Fn.func 6) #[] #[] := hA.sl (t := 5) (by decide)
            have sv6 : ac.tmps[6]?.getD undef = .pointer (some ⟨u.heap.size, 0, none⟩) := hA.sl (t := 6) (by decide)
            have sv7 : ac.tmps[7]?.getD undef = .pointer (some ⟨u.heap.size + 1, 0, none⟩) := hA.sl (t := 7) (by decide)
            have sv8 : ac.tmps[8]?.getD undef = .string low := hA.sl (t := 8) (by decide)
            have sv9 : ac.tmps[9]?.getD undef = .string tri := hA.sl (t := 9) (by decide)
            have p0 := cells_frame hB p0
            have p1 := cells_frame hB p1
            have p2 := cells_frame hB p2
            have p3 := cells_frame hB p3
            have p4 := cells_frame hB p4
            have p5 := cells_frame hB p5
            have q0 := cells_frame hB q0
            have q1 := cells_frame hB q1
            have q2 := cells_frame hB q2
            have q3 := cells_frame hB q3
            have q4 := cells_frame hB q4
            have q5 := cells_frame hB q5
            rcases (by omega : i = 0 ∨ i = 1 ∨ i = 2 ∨ i = 3 ∨ i = 4 ∨ i = 5 ∨ i = 6 ∨ i = 7 ∨ i = 8 ∨ i = 9 ∨ i = 10 ∨ i = 11 ∨ i = 12 ∨ i = 13 ∨ i = 14 ∨ i = 15 ∨ i = 16 ∨ i = 17 ∨ i = 18 ∨ i = 19 ∨ i = 20 ∨ i = 21 ∨ i = 22 ∨ i = 23 ∨ i = 24 ∨ i = 25 ∨ i = 26 ∨ i = 27 ∨ i = 28 ∨ i = 29 ∨ i = 30 ∨ i = 31 ∨ i = 32 ∨ i = 33 ∨ i = 34 ∨ i = 35 ∨ i = 36 ∨ i = 37) with rfl | rfl | rfl | rfl | rfl | rfl | rfl | rfl | rfl | rfl | rfl | rfl | rfl | rfl | rfl | rfl | rfl | rfl | rfl | rfl | rfl | rfl | rfl | rfl | rfl | rfl | rfl | rfl | rfl | rfl | rfl | rfl | rfl | rfl | rfl | rfl | rfl | rfl
            · simp at ho
              subst ho
              clear hdep hA
              go_simp
              exact hK _ wb (Below.refl _ _) rfl
            · simp at ho
              subst ho
              clear hdep hA
              go_simp
              exact hK _ wb (Below.refl _ _) rfl
            · simp at ho
              subst ho
              clear hdep hA
              go_simp
              exact hK _ wb (Below.refl _ _) rfl
            · simp at ho
              subst ho
              have y2 : ac.tmps[75]?.getD undef = .agg #[.int .i64 3, .bool false, .int .i64 0, .string a, .slice none 0 0, .slice none 0 0] := hdep { on := 2, ground := .data } (by simp) rfl
              clear hdep hA
              go_simp
              exact hK _ _ ((Below.refl _ _).alloc (Nat.le_refl _) _) ⟨wb.heap.size, rfl, Box6.new wb _ 27, by simp⟩
            · simp at ho
              subst ho
              have y1 : ac.tmps[74]?.getD undef = .func (Fn.func 6) #[] #[] := hdep { on := 1, ground := .data } (by simp) rfl
              obtain ⟨sby3, y3, hSy3, hly3⟩ := hdep { on := 3, ground := .data } (by simp) rfl
              have y3 : ac.tmps[76]?.getD undef = _ := y3
              clear hdep hA
              go_simp
              refine (UPP.out wb (bstep HB7.out hB HB7.out.size) sby3 hSy3 hly3).mono ?_
              rintro e w5 ⟨rfl, hb5⟩
              exact hK _ w5 hb5 rfl
            · simp at ho
              subst ho
              have y4 : ac.tmps[77]?.getD undef = .string upp := hdep { on := 4, ground := .data } (by simp) rfl
              clear hdep hA
              go_simp
              refine (tStr_any _ wb).mono ?_
              rintro e w5 ⟨rfl, hb5⟩
              exact hK _ w5 hb5 rfl
            · simp at ho
              subst ho
              have y5 : ac.tmps[78]?.getD undef = .agg #[.int .i64 3, .bool false, .int .i64 0, .string upp, .slice none 0 0, .slice none 0 0] := hdep { on := 5, ground := .data } (by simp) rfl
              clear hdep hA
              go_simp
              exact hK _ _ ((Below.refl _ _).alloc (Nat.le_refl _) _) ⟨wb.heap.size, rfl, Box6.new wb _ 27, by simp⟩
            · simp at ho
              subst ho
              have y0 : ac.tmps[73]?.getD undef = .func (Fn.func 6) #[] #[] := hdep { on := 0, ground := .data } (by simp) rfl
              obtain ⟨sby6, y6, hSy6, hly6⟩ := hdep { on := 6, ground := .data } (by simp) rfl
              have y6 : ac.tmps[79]?.getD undef = _ := y6
              clear hdep hA
              go_simp
              refine (LOU.out wb (bstep HB7.out hB HB7.out.size) sby6 hSy6 hly6).mono ?_
              rintro e w5 ⟨rfl, hb5⟩
              exact hK _ w5 hb5 rfl
            · simp at ho
              subst ho
              clear hdep hA
              go_simp
              exact hK _ wb (Below.refl _ _) rfl
            · simp at ho
              subst ho
              have y7 : ac.tmps[80]?.getD undef = .string low := hdep { on := 7, ground := .data } (by simp) rfl
              have y8 : ac.tmps[81]?.getD undef = .string low := hdep { on := 8, ground := .data } (by simp) rfl
              clear hdep hA
              go_simp
              first | exact hK _ wb (Below.refl _ _) rfl | exact hK _ wb (Below.refl _ _) (by simp)
            · simp at ho
              subst ho
              have y9 : ac.tmps[82]?.getD undef = .bool false := hdep { on := 9, ground := .data } (by simp) rfl
              clear hdep hA
              go_simp
              exact hK _ wb (Below.refl _ _) rfl
            · simp at ho
              subst ho
              clear hdep hA
              go_simp
              exact hK _ wb (Below.refl _ _) rfl
            · simp at ho
              subst ho
              clear hdep hA
              go_simp
              exact hK _ wb (Below.refl _ _) rfl
            · simp at ho
              subst ho
              have y12 : ac.tmps[85]?.getD undef = .string tri := hdep { on := 12, ground := .data } (by simp) rfl
              clear hdep hA
              go_simp
              refine (tStr_any _ wb).mono ?_
              rintro e w5 ⟨rfl, hb5⟩
              exact hK _ w5 hb5 rfl
            · simp at ho
              subst ho
              have y13 : ac.tmps[86]?.getD undef = .agg #[.int .i64 3, .bool false, .int .i64 0, .string tri, .slice none 0 0, .slice none 0 0] := hdep { on := 13, ground := .data } (by simp) rfl
              clear hdep hA
              go_simp
              exact hK _ _ ((Below.refl _ _).alloc (Nat.le_refl _) _) ⟨wb.heap.size, rfl, Box6.new wb _ 27, by simp⟩
            · simp at ho
              subst ho
              have y11 : ac.tmps[84]?.getD undef = .func (Fn.func 6) #[] #[] := hdep { on := 11, ground := .data } (by simp) rfl
              obtain ⟨sby14, y14, hSy14, hly14⟩ := hdep { on := 14, ground := .data } (by simp) rfl
              have y14 : ac.tmps[87]?.getD undef = _ := y14
              clear hdep hA
              go_simp
              refine (TRT.out wb (bstep HB7.out hB HB7.out.size) sby14 hSy14 hly14).mono ?_
              rintro e w5 ⟨rfl, hb5⟩
              exact hK _ w5 hb5 rfl
            · simp at ho
              subst ho
              clear hdep hA
              go_simp
              exact hK _ wb (Below.refl _ _) rfl
            · simp at ho
              subst ho
              have y15 : ac.tmps[88]?.getD undef = .string tri := hdep { on := 15, ground := .data } (by simp) rfl
              have y16 : ac.tmps[89]?.getD undef = .string tri := hdep { on := 16, ground := .data } (by simp) rfl
              clear hdep hA
              go_simp
              first | exact hK _ wb (Below.refl _ _) rfl | exact hK _ wb (Below.refl _ _) (by simp)
            · simp at ho
              subst ho
              have y10 : ac.tmps[83]?.getD undef = .bool false := hdep { on := 10, ground := .data } (by simp) rfl
              have y17 : ac.tmps[90]?.getD undef = .bool false := hdep { on := 17, ground := .data } (by simp) rfl
              clear hdep hA
              go_simp
              exact hK _ wb (Below.refl _ _) rfl
            · simp at ho
              subst ho
              have y18 : ac.tmps[91]?.getD undef = .bool false := hdep { on := 18, ground := .data } (by simp) rfl
              clear hdep hA
              go_simp
              exact hK _ wb (Below.refl _ _) rfl
            · simp at ho
              subst ho
              clear hdep hA
              go_simp
              exact hK _ wb (Below.refl _ _) rfl
            · simp at ho
              subst ho
              clear hdep hA
              go_simp
              refine (tInt_any _ wb).mono ?_
              rintro e w5 ⟨rfl, hb5⟩
              exact hK _ w5 hb5 rfl
            · simp at ho
              subst ho
              clear hdep hA
              go_simp
              exact hK _ wb (Below.refl _ _) rfl
            · simp at ho
              subst ho
              have y21 : ac.tmps[94]?.getD undef = .agg #[.int .i64 2, .bool false, .int .i64 0, .string ⟨#[]⟩, .slice none 0 0, .slice none 0 0] := hdep { on := 21, ground := .data } (by simp) rfl
              have y22 : ac.tmps[95]?.getD undef = .agg #[.int .i64 3, .bool false, .int .i64 0, .string a, .slice none 0 0, .slice none 0 0] := hdep { on := 22, ground := .data } (by simp) rfl
              clear hdep hA
              go_simp
              exact hK _ _ ((Below.refl _ _).alloc (Nat.le_refl _) _) ⟨wb.heap.size, rfl, TwoV.new wb _ _ _ _ _ _ _ _ _ _ _ _ 27⟩
            · simp at ho
              subst ho
              have y20 : ac.tmps[93]?.getD undef = .func (Fn.func 6) #[] #[] := hdep { on := 20, ground := .data } (by simp) rfl
              obtain ⟨sby23, y23, hSy23⟩ := hdep { on := 23, ground := .data } (by simp) rfl
              have y23 : ac.tmps[96]?.getD undef = _ := y23
              clear hdep hA
              go_simp
              refine (IND.out wb (bstep HB7.out hB HB7.out.size) sby23 hSy23).mono ?_
              rintro e w5 ⟨rfl, hb5⟩
              exact hK _ w5 hb5 rfl
            · simp at ho
              subst ho
              clear hdep hA
              go_simp
              exact hK _ wb (Below.refl _ _) rfl
            · simp at ho
              subst ho
              have y24 : ac.tmps[97]?.getD undef = .string a := hdep { on := 24, ground := .data } (by simp) rfl
              have y25 : ac.tmps[98]?.getD undef = .string a := hdep { on := 25, ground := .data } (by simp) rfl
              clear hdep hA
              go_simp
              first | exact hK _ wb (Below.refl _ _) rfl | exact hK _ wb (Below.refl _ _) (by simp)
            · simp at ho
              subst ho
              have y19 : ac.tmps[92]?.getD undef = .bool false := hdep { on := 19, ground := .data } (by simp) rfl
              have y26 : ac.tmps[99]?.getD undef = .bool false := hdep { on := 26, ground := .data } (by simp) rfl
              clear hdep hA
              go_simp
              exact hK _ wb (Below.refl _ _) rfl
            · simp at ho
              subst ho
              have y27 : ac.tmps[100]?.getD undef = .bool false := hdep { on := 27, ground := .data } (by simp) rfl
              clear hdep hA
              go_simp
              exact hK _ wb (Below.refl _ _) rfl
            · simp at ho
              subst ho
              clear hdep hA
              go_simp
              exact hK _ wb (Below.refl _ _) rfl
            · simp at ho
              subst ho
              clear hdep hA
              go_simp
              refine (tInt_any _ wb).mono ?_
              rintro e w5 ⟨rfl, hb5⟩
              exact hK _ w5 hb5 rfl
            · simp at ho
              subst ho
              clear hdep hA
              go_simp
              exact hK _ wb (Below.refl _ _) rfl
            · simp at ho
              subst ho
              have y30 : ac.tmps[103]?.getD undef = .agg #[.int .i64 2, .bool false, .int .i64 0, .string ⟨#[]⟩, .slice none 0 0, .slice none 0 0] := hdep { on := 30, ground := .data } (by simp) rfl
              have y31 : ac.tmps[104]?.getD undef = .agg #[.int .i64 3, .bool false, .int .i64 0, .string a, .slice none 0 0, .slice none 0 0] := hdep { on := 31, ground := .data } (by simp) rfl
              clear hdep hA
              go_simp
              exact hK _ _ ((Below.refl _ _).alloc (Nat.le_refl _) _) ⟨wb.heap.size, rfl, TwoV.new wb _ _ _ _ _ _ _ _ _ _ _ _ 27⟩
            · simp at ho
              subst ho
              have y29 : ac.tmps[102]?.getD undef = .func (Fn.func 6) #[] #[] := hdep { on := 29, ground := .data } (by simp) rfl
              obtain ⟨sby32, y32, hSy32⟩ := hdep { on := 32, ground := .data } (by simp) rfl
              have y32 : ac.tmps[105]?.getD undef = _ := y32
              clear hdep hA
              go_simp
              refine (NIN.out wb (bstep HB7.out hB HB7.out.size) sby32 hSy32).mono ?_
              rintro e w5 ⟨rfl, hb5⟩
              exact hK _ w5 hb5 rfl
            · simp at ho
              subst ho
              clear hdep hA
              go_simp
              exact hK _ wb (Below.refl _ _) rfl
            · simp at ho
              subst ho
              have y34 : ac.tmps[107]?.getD undef = .string a := hdep { on := 34, ground := .data } (by simp) rfl
              clear hdep hA
              go_simp
              rw [if_neg (by omega)]
              go_simp
              exact hK _ wb (Below.refl _ _) rfl
            · simp at ho
              subst ho
              have y33 : ac.tmps[106]?.getD undef = .string (⟨#[10]⟩ ++ a) := hdep { on := 33, ground := .data } (by simp) rfl
              have y35 : ac.tmps[108]?.getD undef = .string (⟨#[10]⟩ ++ a) := hdep { on := 35, ground := .data } (by simp) rfl
              clear hdep hA
              go_simp
              first | exact hK _ wb (Below.refl _ _) rfl | exact hK _ wb (Below.refl _ _) (by simp)
            · simp at ho
              subst ho
              have y28 : ac.tmps[101]?.getD undef = .bool false := hdep { on := 28, ground := .data } (by simp) rfl
              have y36 : ac.tmps[109]?.getD undef = .bool false := hdep { on := 36, ground := .data } (by simp) rfl
              clear hdep hA
              go_simp
              exact hK _ wb (Below.refl _ _) rfl
          case s5 =>
            intro ac wn hA hB hU
            have hs : slots 38 (fun i => match i with | 0 => 73 | 1 => 74 | 2 => 75 | 3 => 76 | 4 => 77 | 5 => 78 | 6 => 79 | 7 => 80 | 8 => 81 | 9 => 82 | 10 => 83 | 11 => 84 | 12 => 85 | 13 => 86 | 14 => 87 | 15 => 88 | 16 => 89 | 17 => 90 | 18 => 91 | 19 => 92 | 20 => 93 | 21 => 94 | 22 => 95 | 23 => 96 | 24 => 97 | 25 => 98 | 26 => 99 | 27 => 100 | 28 => 101 | 29 => 102 | 30 => 103 | 31 => 104 | 32 => 105 | 33 => 106 | 34 => 107 | 35 => 108 | 36 => 109 | 37 => 110 | _ => 0) = [73, 74, 75, 76, 77, 78, 79, 80, 81, 82, 83, 84, 85, 86, 87, 88, 89, 90, 91, 92, 93, 94, 95, 96, 97, 98, 99, 100, 101, 102, 103, 104, 105, 106, 107, 108, 109, 110] := by rfl
            rw [hs] at hA
            have hac := hA.act (fun t ht => by
              have h8 : t = 73 ∨ t = 74 ∨ t = 75 ∨ t = 76 ∨ t = 77 ∨ t = 78 ∨ t = 79 ∨ t = 80 ∨ t = 81 ∨ t = 82 ∨ t = 83 ∨ t = 84 ∨ t = 85 ∨ t = 86 ∨ t = 87 ∨ t = 88 ∨ t = 89 ∨ t = 90 ∨ t = 91 ∨ t = 92 ∨ t = 93 ∨ t = 94 ∨ t = 95 ∨ t = 96 ∨ t = 97 ∨ t = 98 ∨ t = 99 ∨ t = 100 ∨ t = 101 ∨ t = 102 ∨ t = 103 ∨ t = 104 ∨ t = 105 ∨ t = 106 ∨ t = 107 ∨ t = 108 ∨ t = 109 ∨ t = 110 := by simpa using ht
              rcases h8 with rfl | rfl | rfl | rfl | rfl | rfl | rfl | rfl | rfl | rfl | rfl | rfl | rfl | rfl | rfl | rfl | rfl | rfl | rfl | rfl | rfl | rfl | rfl | rfl | rfl | rfl | rfl | rfl | rfl | rfl | rfl | rfl | rfl | rfl | rfl | rfl | rfl | rfl <;> exact Nat.lt_of_lt_of_le (by decide : _ < 134) (Nat.le_refl 134))
            rw [List.foldl_cons, List.foldl_cons, List.foldl_cons, List.foldl_cons, List.foldl_cons, List.foldl_cons, List.foldl_cons, List.foldl_cons, List.foldl_cons, List.foldl_cons, List.foldl_cons, List.foldl_cons, List.foldl_cons, List.foldl_cons, List.foldl_cons, List.foldl_cons, List.foldl_cons, List.foldl_cons, List.foldl_cons, List.foldl_cons, List.foldl_cons, List.foldl_cons, List.foldl_cons, List.foldl_cons, List.foldl_cons, List.foldl_cons, List.foldl_cons, List.foldl_cons, List.foldl_cons, List.foldl_cons, List.foldl_cons, List.foldl_cons, List.foldl_cons, List.foldl_cons, List.foldl_cons, List.foldl_cons, List.foldl_cons, List.foldl_cons, List.foldl_nil] at hac
            have HB8 := Lib.hid (bstep HB7.out hB HB7.out.size)
            have z110 : sl ac 110 = .bool false := hU 37 (by omega)
            clear hU hB
            generalize sl ac 73 = x73 at hac z110
            generalize sl ac 74 = x74 at hac z110
            generalize sl ac 75 = x75 at hac z110
            generalize sl ac 76 = x76 at hac z110
            generalize sl ac 77 = x77 at hac z110
            generalize sl ac 78 = x78 at hac z110
            generalize sl ac 79 = x79 at hac z110
            generalize sl ac 80 = x80 at hac z110
            generalize sl ac 81 = x81 at hac z110
            generalize sl ac 82 = x82 at hac z110
            generalize sl ac 83 = x83 at hac z110
            generalize sl ac 84 = x84 at hac z110
            generalize sl ac 85 = x85 at hac z110
            generalize sl ac 86 = x86 at hac z110
            generalize sl ac 87 = x87 at hac z110
            generalize sl ac 88 = x88 at hac z110
            generalize sl ac 89 = x89 at hac z110
            generalize sl ac 90 = x90 at hac z110
            generalize sl ac 91 = x91 at hac z110
            generalize sl ac 92 = x92 at hac z110
            generalize sl ac 93 = x93 at hac z110
            generalize sl ac 94 = x94 at hac z110
            generalize sl ac 95 = x95 at hac z110
            generalize sl ac 96 = x96 at hac z110
            generalize sl ac 97 = x97 at hac z110
            generalize sl ac 98 = x98 at hac z110
            generalize sl ac 99 = x99 at hac z110
            generalize sl ac 100 = x100 at hac z110
            generalize sl ac 101 = x101 at hac z110
            generalize sl ac 102 = x102 at hac z110
            generalize sl ac 103 = x103 at hac z110
            generalize sl ac 104 = x104 at hac z110
            generalize sl ac 105 = x105 at hac z110
            generalize sl ac 106 = x106 at hac z110
            generalize sl ac 107 = x107 at hac z110
            generalize sl ac 108 = x108 at hac z110
            generalize sl ac 109 = x109 at hac z110
            generalize sl ac 110 = x110 at hac z110
            subst z110
            subst hac
            simp only [Act.put, List.setIfInBounds_toArray, List.set_cons_succ, List.set_cons_zero]
            generalize hwn : wn = w8 at *
            clear hwn
            go_upto_region 10 with fail
            clear p0 p1 p2 p3 p4 p5 q0 q1 q2 q3 q4 q5
            obtain ⟨p0, p1, p2, p3, p4, p5⟩ := (B1.out.later HB8.out (by omega)).six
            obtain ⟨q0, q1, q2, q3, q4, q5⟩ := (B2.out.later HB8.out (by omega)).six
            have HBS := Lib.hid (HB8.out.alloc HB8.out.size (.cells #[.int .i64 3, .bool false, .int .i64 0, .string a, .slice none 0 0, .slice none 0 0] 27))
            have BS := Lib.hid (Box6.new w8 #[.int .i64 3, .bool false, .int .i64 0, .string a, .slice none 0 0, .slice none 0 0] 27)
            have hsl : w8.heap.size < (w8.alloc (.cells #[.int .i64 3, .bool false, .int .i64 0, .string a, .slice none 0 0, .slice none 0 0] 27)).heap.size := by rw [World.size_alloc]; exact Nat.lt_succ_self _
            go_upto_region 11 with fail
            refine (QUO.out _ HBS.out _ BS.out hsl).mono ?_
            rintro e w9 ⟨rfl, hb⟩
            have HB9 := Lib.hid (bstep HBS.out hb HBS.out.size)
            clear hb
            go_upto_region 11 with (go_at_call 11; refine (UNQ.out w9).mono ?_; rintro e w10 ⟨rfl, hb⟩; have HB10 := Lib.hid (bstep HB9.out hb HB9.out.size); clear hb)
            go_wp2_with (go_at_call 5; refine (AW.out w10 HB10.out).mono ?_; rintro e w11 ⟨rfl, hb⟩; have HB11 := Lib.hid (bstep HB10.out hb HB10.out.size); clear hb)
            go_ret
            exact ⟨rfl, bstep HV.out HB11.out HV.out.size⟩

end Go.Proofs.YtclkinokmpcigaaGreatDoor
