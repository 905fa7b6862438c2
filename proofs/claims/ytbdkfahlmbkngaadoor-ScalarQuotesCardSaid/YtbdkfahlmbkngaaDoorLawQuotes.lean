/-
  ScalarQuotes: the law's contract.
-/
import Derived.Test.YtbdkfahlmbkngaaDoorUnqAny
import Derived.Test.YtbdkfahlmbkngaaDoorCPrint
set_option linter.unusedVariables false
set_option linter.unusedSimpArgs false
namespace Go.Proofs.YtbdkfahlmbkngaaDoor
open Go.RowKit

theorem mk_append (a : List UInt8) (t : ByteArray) : ((⟨a.toArray⟩ : ByteArray) ++ t).data.toList = a ++ t.data.toList := by simp [ByteArray.data_append]
theorem unq_len {l a d : List UInt8} (h : unqL l = some (a, d)) : a.length ≤ l.length ∧ d.length ≤ l.length := by
  rcases unq_inv h with e | ⟨e2, e⟩
  · rw [← e]
    have : ∀ b, 1 ≤ (escB b).length := fun b => by unfold escB; split <;> (try split) <;> (try split) <;> simp
    have h2 : a.length ≤ (a.flatMap escB).length := by
      clear h e
      induction a with
      | nil => simp
      | cons x a ih => rw [List.flatMap_cons, List.length_append, List.length_cons]; have := this x; omega
    simp [quoteL] at h2 ⊢
    omega
  · rw [← e]
    have : ∀ b, 1 ≤ (sqB b).length := fun b => by unfold sqB; split <;> simp
    have h2 : a.length ≤ (a.flatMap sqB).length := by
      clear h e e2
      induction a with
      | nil => simp
      | cons x a ih => rw [List.flatMap_cons, List.length_append, List.length_cons]; have := this x; omega
    simp [singleL] at h2 ⊢
    omega
theorem quote_size (l : List UInt8) : (⟨(quoteL l).toArray⟩ : ByteArray).size ≤ 2 + 2 * l.length := by
  rw [Lib.size_eq]
  have := esc_len l
  simp only [quoteL, List.length_cons, List.length_append, List.length_nil]
  omega
theorem single_size (l : List UInt8) : (⟨(singleL l).toArray⟩ : ByteArray).size ≤ 2 + 2 * l.length := by
  rw [Lib.size_eq]
  have := sq_len l
  simp only [singleL, List.length_cons, List.length_append, List.length_nil]
  omega

/-- Unquote of a text of which it is known what it says. -/
theorem unq_at {w0 : World} {x : ByteArray} {a d : List UInt8} {m : Int} (hx : x.size ≤ 1000000) (h : unqL x.data.toList = some (a, d)) (hm : w0.cell? ⟨3, 0, none⟩ = some (.int .i64 m)) (h0 : 3 < w0.heap.size) (w : World) (hb : Below w0.heap.size w0 w) :
    Calls Tryd.prog 20 #[.string x] w fun e w' => e = .returned (.tuple #[.string ⟨a.toArray⟩, .string ⟨d.toArray⟩, .int .i64 0]) ∧ Below w0.heap.size w0 w' := by
  refine (cUnquote_any x hx m w ((hb.cell (p := ⟨3, 0, none⟩) h0).trans hm) (Nat.lt_of_lt_of_le h0 hb.size)).mono ?_
  rintro e w' ⟨k1, k2⟩
  rw [h] at k2
  exact ⟨k2, hb.trans (k1.mono hb.size)⟩
theorem unq_not {w0 : World} {x : ByteArray} {m : Int} (hx : x.size ≤ 1000000) (h : unqL x.data.toList = none) (hm : w0.cell? ⟨3, 0, none⟩ = some (.int .i64 m)) (h0 : 3 < w0.heap.size) (w : World) (hb : Below w0.heap.size w0 w) :
    Calls Tryd.prog 20 #[.string x] w fun e w' => e = .returned (.tuple #[.string ⟨#[]⟩, .string ⟨#[]⟩, .int .i64 11]) ∧ Below w0.heap.size w0 w' := by
  refine (cUnquote_any x hx m w ((hb.cell (p := ⟨3, 0, none⟩) h0).trans hm) (Nat.lt_of_lt_of_le h0 hb.size)).mono ?_
  rintro e w' ⟨k1, k2⟩
  rw [h] at k2
  exact ⟨k2, hb.trans (k1.mono hb.size)⟩

set_option maxRecDepth 100000 in
set_option maxHeartbeats 8000000 in
theorem scalarQuotes_any (s t : ByteArray) {m : Int} (hs47 : s.size ≤ 140737488355328) (ht47 : t.size ≤ 140737488355328) (w : World) (hm : w.cell? ⟨3, 0, none⟩ = some (.int .i64 m)) (h0 : 3 < w.heap.size) :
    Calls Tryd.prog 4 #[.string s, .string t] w fun e w' => e = .returned (.bool true) ∧ Below w.heap.size w w' := by
  have HM := Lib.hid hm
  clear hm
  by_cases hs : s.size ≤ 500
  case neg =>
    go_enter Tryd.func4, Tryd.ntmps4
    go_wp2_with (go_at_call 9; refine (law4awake_any _).mono ?_; rintro e w9 ⟨rfl, hb⟩)
    go_ret
    exact ⟨rfl, hb⟩
  by_cases ht : t.size ≤ 500
  case neg =>
    go_enter Tryd.func4, Tryd.ntmps4
    go_wp2_with (go_at_call 9; refine (law4awake_any _).mono ?_; rintro e w9 ⟨rfl, hb⟩)
    go_ret
    exact ⟨rfl, hb⟩
  have hsl := Lib.size_eq s
  have htl := Lib.size_eq t
  have hqz : (⟨(quoteL s.data.toList).toArray⟩ : ByteArray).size ≤ 1002 := by have := quote_size s.data.toList; omega
  have hgz : (⟨(singleL s.data.toList).toArray⟩ : ByteArray).size ≤ 1002 := by have := single_size s.data.toList; omega
  obtain ⟨q, hq⟩ : ∃ q : ByteArray, (⟨(quoteL s.data.toList).toArray⟩ : ByteArray) = q := ⟨_, rfl⟩
  obtain ⟨g, hg⟩ : ∃ g : ByteArray, (⟨(singleL s.data.toList).toArray⟩ : ByteArray) = g := ⟨_, rfl⟩
  rw [hq] at hqz
  rw [hg] at hgz
  have hqt : (q ++ t).size ≤ 1502 := by rw [ByteArray.size_append]; omega
  have hgt : (g ++ t).size ≤ 1502 := by rw [ByteArray.size_append]; omega
  have CQ : Hid (∀ w1, Below w.heap.size w w1 → Calls Tryd.prog 19 #[.string s] w1 fun e w' => e = .returned (.string q) ∧ Below w.heap.size w w') := fun w1 hb1 => by
    refine (cQuote_any s (by omega) w1).mono ?_
    rintro e w' ⟨rfl, k⟩
    rw [hq]
    exact ⟨rfl, hb1.trans (k.mono hb1.size)⟩
  have RQ : Hid (∀ w1, Calls Tryd.prog 21 #[.string s] w1 fun e w' => e = .returned (.string q) ∧ w' = w1) := fun w1 => by
    have := r4Quote_any s (by omega) w1
    rw [hq] at this
    exact this
  have RS : Hid (∀ w1, Calls Tryd.prog 22 #[.string s] w1 fun e w' => e = .returned (.string g) ∧ w' = w1) := fun w1 => by
    have := r4Single_any s (by omega) w1
    rw [hg] at this
    exact this
  have U1 : Hid (∀ w1, Below w.heap.size w w1 → Calls Tryd.prog 20 #[.string (q ++ t)] w1 fun e w' => e = .returned (.tuple #[.string s, .string t, .int .i64 0]) ∧ Below w.heap.size w w') := fun w1 hb1 => by
    have := unq_at (x := q ++ t) (a := s.data.toList) (d := t.data.toList) (by omega) (by rw [← hq, mk_append]; exact unq_quote _ _) HM.out h0 w1 hb1
    rw [Lib.mk_data, Lib.mk_data] at this
    exact this
  have U2 : Hid (Lib.hasPrefix t.data.toList [39] = false → ∀ w1, Below w.heap.size w w1 → Calls Tryd.prog 20 #[.string (g ++ t)] w1 fun e w' => e = .returned (.tuple #[.string s, .string t, .int .i64 0]) ∧ Below w.heap.size w w') := fun hp w1 hb1 => by
    have := unq_at (x := g ++ t) (a := s.data.toList) (d := t.data.toList) (by omega) (by rw [← hg, mk_append]; exact unq_single _ _ hp) HM.out h0 w1 hb1
    rw [Lib.mk_data, Lib.mk_data] at this
    exact this
  have AW : Hid (∀ w1, Below w.heap.size w w1 → Calls Tryd.prog 9 #[] w1 fun e w' => e = .returned (.bool true) ∧ Below w.heap.size w w') := fun w1 hb1 => by
    refine (law4awake_any w1).mono ?_
    rintro e w' ⟨rfl, k⟩
    exact ⟨rfl, hb1.trans (k.mono hb1.size)⟩
  have HB0 : Hid (Below w.heap.size w w) := Below.refl _ _
  clear hq hg hsl
  have hhead : (t.size = 0 ∧ Lib.hasPrefix t.data.toList [39] = false) ∨ (∃ h : 0 < t.size, ((t[0].toNat : Int) == 39) = false ∧ Lib.hasPrefix t.data.toList [39] = false) ∨ (∃ h : 0 < t.size, ((t[0].toNat : Int) == 39) = true) := by
    by_cases h : 0 < t.size
    · have e := drop_step t 0 h
      rw [List.drop_zero] at e
      by_cases h2 : t[0] = 39
      · exact .inr (.inr ⟨h, by rw [h2]; rfl⟩)
      · exact .inr (.inl ⟨h, by rw [beq_eq_false_iff_ne]; exact fun e2 => h2 (byteIs (by have : (39 : UInt8).toNat = 39 := rfl; omega)), by rw [e]; simp [Lib.hasPrefix, List.isPrefixOf]; exact fun e2 => h2 e2.symm⟩)
    · refine .inl ⟨by omega, ?_⟩
      have : t.data.toList = [] := List.eq_nil_of_length_eq_zero (by omega)
      rw [this]
      rfl
  cases hu : unqL t.data.toList with
  | none =>
    have U3 : Hid (∀ w1, Below w.heap.size w w1 → Calls Tryd.prog 20 #[.string t] w1 fun e w' => e = .returned (.tuple #[.string ⟨#[]⟩, .string ⟨#[]⟩, .int .i64 11]) ∧ Below w.heap.size w w') := fun w1 hb1 => unq_not (by omega) hu HM.out h0 w1 hb1
    clear hu htl
    rcases hhead with ⟨z0, hp⟩ | ⟨z1, c1, hp⟩ | ⟨z1, c1⟩
    · have V2 := Lib.hid (U2.out hp)
      clear hp
      have z00 : (t.size : Int) = 0 := by omega
      go_enter Tryd.func4, Tryd.ntmps4
      go_wp2_with (first
        | ((with_reducible refine (CQ.out _ HB0.out).mono ?_); rintro e w1 ⟨rfl, hb⟩; have HB1 := Lib.hid hb; clear hb)
        | ((with_reducible refine (U1.out _ HB1.out).mono ?_); rintro e w2 ⟨rfl, hb⟩; have HB2 := Lib.hid hb; clear hb)
        | ((with_reducible refine (RQ.out _).mono ?_); rintro e wq ⟨rfl, hwq⟩; have hwq2 := hwq.symm; subst hwq2)
        | ((with_reducible refine (RS.out _).mono ?_); rintro e wg ⟨rfl, hwg⟩; have hwg2 := hwg.symm; subst hwg2)
        | ((with_reducible refine (V2.out _ HB2.out).mono ?_); rintro e w3 ⟨rfl, hb⟩; have HB3 := Lib.hid hb; clear hb)
        | ((with_reducible refine (U3.out _ HB3.out).mono ?_); rintro e w4 ⟨rfl, hb⟩; have HB4 := Lib.hid hb; clear hb)
        | ((with_reducible refine (AW.out _ HB4.out).mono ?_); rintro e w5 ⟨rfl, hb⟩; have HB5 := Lib.hid hb; clear hb))
      go_ret
      exact ⟨rfl, HB5.out⟩
    · have V2 := Lib.hid (U2.out hp)
      clear hp
      have z2 : ¬ t = ByteArray.empty := fun e => by rw [e] at z1; exact absurd z1 (by decide)
      have z3 : ((t.size : Int) == 0) = false := by rw [beq_eq_false_iff_ne]; omega
      go_enter Tryd.func4, Tryd.ntmps4
      go_wp2_with (first
        | ((with_reducible refine (CQ.out _ HB0.out).mono ?_); rintro e w1 ⟨rfl, hb⟩; have HB1 := Lib.hid hb; clear hb)
        | ((with_reducible refine (U1.out _ HB1.out).mono ?_); rintro e w2 ⟨rfl, hb⟩; have HB2 := Lib.hid hb; clear hb)
        | ((with_reducible refine (RQ.out _).mono ?_); rintro e wq ⟨rfl, hwq⟩; have hwq2 := hwq.symm; subst hwq2)
        | ((with_reducible refine (RS.out _).mono ?_); rintro e wg ⟨rfl, hwg⟩; have hwg2 := hwg.symm; subst hwg2)
        | ((with_reducible refine (V2.out _ HB2.out).mono ?_); rintro e w3 ⟨rfl, hb⟩; have HB3 := Lib.hid hb; clear hb)
        | ((with_reducible refine (U3.out _ HB3.out).mono ?_); rintro e w4 ⟨rfl, hb⟩; have HB4 := Lib.hid hb; clear hb)
        | ((with_reducible refine (AW.out _ HB4.out).mono ?_); rintro e w5 ⟨rfl, hb⟩; have HB5 := Lib.hid hb; clear hb))
      go_ret
      exact ⟨rfl, HB5.out⟩
    · skip
      have z2 : ¬ t = ByteArray.empty := fun e => by rw [e] at z1; exact absurd z1 (by decide)
      have z3 : ((t.size : Int) == 0) = false := by rw [beq_eq_false_iff_ne]; omega
      go_enter Tryd.func4, Tryd.ntmps4
      go_wp2_with (first
        | ((with_reducible refine (CQ.out _ HB0.out).mono ?_); rintro e w1 ⟨rfl, hb⟩; have HB1 := Lib.hid hb; clear hb)
        | ((with_reducible refine (U1.out _ HB1.out).mono ?_); rintro e w2 ⟨rfl, hb⟩; have HB2 := Lib.hid hb; clear hb)
        | ((with_reducible refine (RQ.out _).mono ?_); rintro e wq ⟨rfl, hwq⟩; have hwq2 := hwq.symm; subst hwq2)
        | ((with_reducible refine (U3.out _ HB2.out).mono ?_); rintro e w4 ⟨rfl, hb⟩; have HB4 := Lib.hid hb; clear hb)
        | ((with_reducible refine (AW.out _ HB4.out).mono ?_); rintro e w5 ⟨rfl, hb⟩; have HB5 := Lib.hid hb; clear hb))
      go_ret
      exact ⟨rfl, HB5.out⟩
  | some ad =>
    obtain ⟨a, d⟩ := ad
    have U3 : Hid (∀ w1, Below w.heap.size w w1 → Calls Tryd.prog 20 #[.string t] w1 fun e w' => e = .returned (.tuple #[.string ⟨a.toArray⟩, .string ⟨d.toArray⟩, .int .i64 0]) ∧ Below w.heap.size w w') := fun w1 hb1 => unq_at (by omega) hu HM.out h0 w1 hb1
    obtain ⟨la, ld⟩ := unq_len hu
    rw [← htl] at la ld
    have haz : (⟨a.toArray⟩ : ByteArray).size ≤ 500 := by rw [Lib.size_eq]; show a.length ≤ 500; omega
    have hdz : (⟨d.toArray⟩ : ByteArray).size ≤ 500 := by rw [Lib.size_eq]; show d.length ≤ 500; omega
    have hyz : (⟨(quoteL a).toArray⟩ : ByteArray).size ≤ 1002 := by have := quote_size a; omega
    have hzz : (⟨(singleL a).toArray⟩ : ByteArray).size ≤ 1002 := by have := single_size a; omega
    have hcases := unq_inv hu
    obtain ⟨x, hx⟩ : ∃ x : ByteArray, (⟨a.toArray⟩ : ByteArray) = x := ⟨_, rfl⟩
    have hxd : x.data.toList = a := by rw [← hx]
    obtain ⟨r, hr⟩ : ∃ r : ByteArray, (⟨d.toArray⟩ : ByteArray) = r := ⟨_, rfl⟩
    obtain ⟨y, hy⟩ : ∃ y : ByteArray, (⟨(quoteL a).toArray⟩ : ByteArray) = y := ⟨_, rfl⟩
    obtain ⟨z, hz⟩ : ∃ z : ByteArray, (⟨(singleL a).toArray⟩ : ByteArray) = z := ⟨_, rfl⟩
    have RQA : Hid (∀ w1, Calls Tryd.prog 21 #[.string x] w1 fun e w' => e = .returned (.string y) ∧ w' = w1) := fun w1 => by
      have := r4Quote_any x (by rw [← hx]; omega) w1
      rw [hxd, hy] at this
      exact this
    have RSA : Hid (∀ w1, Calls Tryd.prog 22 #[.string x] w1 fun e w' => e = .returned (.string z) ∧ w' = w1) := fun w1 => by
      have := r4Single_any x (by rw [← hx]; omega) w1
      rw [hxd, hz] at this
      exact this
    have hyr : (y ++ r).data.toList = quoteL a ++ d := by rw [← hy, ← hr, mk_append]
    have hzr : (z ++ r).data.toList = singleL a ++ d := by rw [← hz, ← hr, mk_append]
    rw [hx] at haz
    rw [hr] at hdz
    rw [hy] at hyz
    rw [hz] at hzz
    simp only [hx, hr] at U3
    have hyrz : (y ++ r).size ≤ 1502 := by rw [ByteArray.size_append]; omega
    have hzrz : (z ++ r).size ≤ 1502 := by rw [ByteArray.size_append]; omega
    rcases hcases with e1 | ⟨e1, e2⟩
    · have E1 : ((y ++ r).toList == t.toList) = true := by
        rw [str_is, hyr, e1, Lib.toList_data]
        simp
      clear hu htl la ld e1 hyr hzr hx hr hy hz hxd
      rcases hhead with ⟨z0, hp⟩ | ⟨z1, c1, hp⟩ | ⟨z1, c1⟩
      · have V2 := Lib.hid (U2.out hp)
        clear hp
        have z00 : (t.size : Int) = 0 := by omega
        go_enter Tryd.func4, Tryd.ntmps4
        go_wp2_with (first
          | ((with_reducible refine (CQ.out _ HB0.out).mono ?_); rintro e w1 ⟨rfl, hb⟩; have HB1 := Lib.hid hb; clear hb)
          | ((with_reducible refine (U1.out _ HB1.out).mono ?_); rintro e w2 ⟨rfl, hb⟩; have HB2 := Lib.hid hb; clear hb)
          | ((with_reducible refine (RQ.out _).mono ?_); rintro e wq ⟨rfl, hwq⟩; have hwq2 := hwq.symm; subst hwq2)
          | ((with_reducible refine (RS.out _).mono ?_); rintro e wg ⟨rfl, hwg⟩; have hwg2 := hwg.symm; subst hwg2)
          | ((with_reducible refine (V2.out _ HB2.out).mono ?_); rintro e w3 ⟨rfl, hb⟩; have HB3 := Lib.hid hb; clear hb)
          | ((with_reducible refine (U3.out _ HB3.out).mono ?_); rintro e w4 ⟨rfl, hb⟩; have HB4 := Lib.hid hb; clear hb)
          | ((with_reducible refine (AW.out _ HB4.out).mono ?_); rintro e w5 ⟨rfl, hb⟩; have HB5 := Lib.hid hb; clear hb)
          | ((with_reducible refine (RQA.out _).mono ?_); rintro e wy ⟨rfl, hwy⟩; have hwy2 := hwy.symm; subst hwy2))
        go_ret
        exact ⟨rfl, HB5.out⟩
      · have V2 := Lib.hid (U2.out hp)
        clear hp
        have z2 : ¬ t = ByteArray.empty := fun e => by rw [e] at z1; exact absurd z1 (by decide)
        have z3 : ((t.size : Int) == 0) = false := by rw [beq_eq_false_iff_ne]; omega
        go_enter Tryd.func4, Tryd.ntmps4
        go_wp2_with (first
          | ((with_reducible refine (CQ.out _ HB0.out).mono ?_); rintro e w1 ⟨rfl, hb⟩; have HB1 := Lib.hid hb; clear hb)
          | ((with_reducible refine (U1.out _ HB1.out).mono ?_); rintro e w2 ⟨rfl, hb⟩; have HB2 := Lib.hid hb; clear hb)
          | ((with_reducible refine (RQ.out _).mono ?_); rintro e wq ⟨rfl, hwq⟩; have hwq2 := hwq.symm; subst hwq2)
          | ((with_reducible refine (RS.out _).mono ?_); rintro e wg ⟨rfl, hwg⟩; have hwg2 := hwg.symm; subst hwg2)
          | ((with_reducible refine (V2.out _ HB2.out).mono ?_); rintro e w3 ⟨rfl, hb⟩; have HB3 := Lib.hid hb; clear hb)
          | ((with_reducible refine (U3.out _ HB3.out).mono ?_); rintro e w4 ⟨rfl, hb⟩; have HB4 := Lib.hid hb; clear hb)
          | ((with_reducible refine (AW.out _ HB4.out).mono ?_); rintro e w5 ⟨rfl, hb⟩; have HB5 := Lib.hid hb; clear hb)
          | ((with_reducible refine (RQA.out _).mono ?_); rintro e wy ⟨rfl, hwy⟩; have hwy2 := hwy.symm; subst hwy2))
        go_ret
        exact ⟨rfl, HB5.out⟩
      · skip
        have z2 : ¬ t = ByteArray.empty := fun e => by rw [e] at z1; exact absurd z1 (by decide)
        have z3 : ((t.size : Int) == 0) = false := by rw [beq_eq_false_iff_ne]; omega
        go_enter Tryd.func4, Tryd.ntmps4
        go_wp2_with (first
          | ((with_reducible refine (CQ.out _ HB0.out).mono ?_); rintro e w1 ⟨rfl, hb⟩; have HB1 := Lib.hid hb; clear hb)
          | ((with_reducible refine (U1.out _ HB1.out).mono ?_); rintro e w2 ⟨rfl, hb⟩; have HB2 := Lib.hid hb; clear hb)
          | ((with_reducible refine (RQ.out _).mono ?_); rintro e wq ⟨rfl, hwq⟩; have hwq2 := hwq.symm; subst hwq2)
          | ((with_reducible refine (U3.out _ HB2.out).mono ?_); rintro e w4 ⟨rfl, hb⟩; have HB4 := Lib.hid hb; clear hb)
          | ((with_reducible refine (AW.out _ HB4.out).mono ?_); rintro e w5 ⟨rfl, hb⟩; have HB5 := Lib.hid hb; clear hb)
          | ((with_reducible refine (RQA.out _).mono ?_); rintro e wy ⟨rfl, hwy⟩; have hwy2 := hwy.symm; subst hwy2))
        go_ret
        exact ⟨rfl, HB5.out⟩
    · have E1 : ((y ++ r).toList == t.toList) = false := by
        rw [str_is, hyr, Lib.toList_data]
        exact decide_eq_false e1
      have E2 : ((z ++ r).toList == t.toList) = true := by
        rw [str_is, hzr, e2, Lib.toList_data]
        simp
      clear hu htl la ld e1 e2 hyr hzr hx hr hy hz hxd
      rcases hhead with ⟨z0, hp⟩ | ⟨z1, c1, hp⟩ | ⟨z1, c1⟩
      · have V2 := Lib.hid (U2.out hp)
        clear hp
        have z00 : (t.size : Int) = 0 := by omega
        go_enter Tryd.func4, Tryd.ntmps4
        go_wp2_with (first
          | ((with_reducible refine (CQ.out _ HB0.out).mono ?_); rintro e w1 ⟨rfl, hb⟩; have HB1 := Lib.hid hb; clear hb)
          | ((with_reducible refine (U1.out _ HB1.out).mono ?_); rintro e w2 ⟨rfl, hb⟩; have HB2 := Lib.hid hb; clear hb)
          | ((with_reducible refine (RQ.out _).mono ?_); rintro e wq ⟨rfl, hwq⟩; have hwq2 := hwq.symm; subst hwq2)
          | ((with_reducible refine (RS.out _).mono ?_); rintro e wg ⟨rfl, hwg⟩; have hwg2 := hwg.symm; subst hwg2)
          | ((with_reducible refine (V2.out _ HB2.out).mono ?_); rintro e w3 ⟨rfl, hb⟩; have HB3 := Lib.hid hb; clear hb)
          | ((with_reducible refine (U3.out _ HB3.out).mono ?_); rintro e w4 ⟨rfl, hb⟩; have HB4 := Lib.hid hb; clear hb)
          | ((with_reducible refine (AW.out _ HB4.out).mono ?_); rintro e w5 ⟨rfl, hb⟩; have HB5 := Lib.hid hb; clear hb)
          | ((with_reducible refine (RQA.out _).mono ?_); rintro e wy ⟨rfl, hwy⟩; have hwy2 := hwy.symm; subst hwy2)
          | ((with_reducible refine (RSA.out _).mono ?_); rintro e wz ⟨rfl, hwz⟩; have hwz2 := hwz.symm; subst hwz2))
        go_ret
        exact ⟨rfl, HB5.out⟩
      · have V2 := Lib.hid (U2.out hp)
        clear hp
        have z2 : ¬ t = ByteArray.empty := fun e => by rw [e] at z1; exact absurd z1 (by decide)
        have z3 : ((t.size : Int) == 0) = false := by rw [beq_eq_false_iff_ne]; omega
        go_enter Tryd.func4, Tryd.ntmps4
        go_wp2_with (first
          | ((with_reducible refine (CQ.out _ HB0.out).mono ?_); rintro e w1 ⟨rfl, hb⟩; have HB1 := Lib.hid hb; clear hb)
          | ((with_reducible refine (U1.out _ HB1.out).mono ?_); rintro e w2 ⟨rfl, hb⟩; have HB2 := Lib.hid hb; clear hb)
          | ((with_reducible refine (RQ.out _).mono ?_); rintro e wq ⟨rfl, hwq⟩; have hwq2 := hwq.symm; subst hwq2)
          | ((with_reducible refine (RS.out _).mono ?_); rintro e wg ⟨rfl, hwg⟩; have hwg2 := hwg.symm; subst hwg2)
          | ((with_reducible refine (V2.out _ HB2.out).mono ?_); rintro e w3 ⟨rfl, hb⟩; have HB3 := Lib.hid hb; clear hb)
          | ((with_reducible refine (U3.out _ HB3.out).mono ?_); rintro e w4 ⟨rfl, hb⟩; have HB4 := Lib.hid hb; clear hb)
          | ((with_reducible refine (AW.out _ HB4.out).mono ?_); rintro e w5 ⟨rfl, hb⟩; have HB5 := Lib.hid hb; clear hb)
          | ((with_reducible refine (RQA.out _).mono ?_); rintro e wy ⟨rfl, hwy⟩; have hwy2 := hwy.symm; subst hwy2)
          | ((with_reducible refine (RSA.out _).mono ?_); rintro e wz ⟨rfl, hwz⟩; have hwz2 := hwz.symm; subst hwz2))
        go_ret
        exact ⟨rfl, HB5.out⟩
      · skip
        have z2 : ¬ t = ByteArray.empty := fun e => by rw [e] at z1; exact absurd z1 (by decide)
        have z3 : ((t.size : Int) == 0) = false := by rw [beq_eq_false_iff_ne]; omega
        go_enter Tryd.func4, Tryd.ntmps4
        go_wp2_with (first
          | ((with_reducible refine (CQ.out _ HB0.out).mono ?_); rintro e w1 ⟨rfl, hb⟩; have HB1 := Lib.hid hb; clear hb)
          | ((with_reducible refine (U1.out _ HB1.out).mono ?_); rintro e w2 ⟨rfl, hb⟩; have HB2 := Lib.hid hb; clear hb)
          | ((with_reducible refine (RQ.out _).mono ?_); rintro e wq ⟨rfl, hwq⟩; have hwq2 := hwq.symm; subst hwq2)
          | ((with_reducible refine (U3.out _ HB2.out).mono ?_); rintro e w4 ⟨rfl, hb⟩; have HB4 := Lib.hid hb; clear hb)
          | ((with_reducible refine (AW.out _ HB4.out).mono ?_); rintro e w5 ⟨rfl, hb⟩; have HB5 := Lib.hid hb; clear hb)
          | ((with_reducible refine (RQA.out _).mono ?_); rintro e wy ⟨rfl, hwy⟩; have hwy2 := hwy.symm; subst hwy2)
          | ((with_reducible refine (RSA.out _).mono ?_); rintro e wz ⟨rfl, hwz⟩; have hwz2 := hwz.symm; subst hwz2))
        go_ret
        exact ⟨rfl, HB5.out⟩

end Go.Proofs.YtbdkfahlmbkngaaDoor
