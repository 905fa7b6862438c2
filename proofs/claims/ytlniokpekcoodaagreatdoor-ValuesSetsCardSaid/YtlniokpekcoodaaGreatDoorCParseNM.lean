/-
  Package scalar's Parse of a number that is too large; Parse of any word, beside the reference's.
-/
import Derived.Test.YtlniokpekcoodaaGreatDoorRParseN
import Derived.Test.YtlniokpekcoodaaGreatDoorQuotedM
import Derived.Test.YtlniokpekcoodaaGreatDoorGoodM
import Derived.DataShut
set_option linter.unusedVariables false
set_option linter.unusedSimpArgs false
namespace Go.Proofs.YtlniokpekcoodaaGreatDoor
open Go.RowKit

theorem parse_big : ∀ (l : List UInt8) (acc : Nat), l.all digitB = true → acc ≤ 18446744073709551615 → 18446744073709551615 < valL acc l → Lib.parseUintM 18446744073709551615 acc l = .range
  | [], acc, _, h, hv => absurd hv (by show ¬ _ < acc; omega)
  | c :: l, acc, h, ha, hv => by
    rw [List.all_cons, Bool.and_eq_true] at h
    have hc := digit_iff.1 h.1
    have hv' : 18446744073709551615 < valL (acc * 10 + (c.toNat - 48)) l := hv
    rw [Lib.parseUintM, if_pos hc]
    by_cases h1 : 1844674407370955162 ≤ acc
    · rw [if_pos h1]
    · rw [if_neg h1]
      by_cases h2 : 18446744073709551615 < acc * 10 + (c.toNat - 48)
      · rw [if_pos h2]
      · rw [if_neg h2, parse_big l _ h.2 (by omega) hv']
theorem range_pos {l : List UInt8} (h : l.all digitB = true) (h0 : l ≠ []) (hv : 9223372036854775808 ≤ valL 0 l) : Lib.parseIntB 64 l = .range := by
  cases l with
  | nil => exact absurd rfl h0
  | cons c l =>
    have hc := digit_iff.1 (by rw [List.all_cons, Bool.and_eq_true] at h; exact h.1)
    have e1 : ¬ (c.toNat = 43 ∨ c.toNat = 45) := by omega
    have e2 : ¬ (c.toNat = 45) := by omega
    unfold Lib.parseIntB
    simp only [if_neg e1]
    unfold Lib.parseUintB
    rw [if_neg (by simp)]
    by_cases hb : valL 0 (c :: l) ≤ 18446744073709551615
    · rw [parse_val (2 ^ 64 - 1) (by decide) (c :: l) 0 h (by omega)]
      simp only
      rw [if_pos ⟨e2, by show 2 ^ 63 ≤ _; omega⟩]
    · have := parse_big (c :: l) 0 h (by omega) (by omega)
      rw [show (2 ^ 64 - 1 : Nat) = 18446744073709551615 from rfl, this]
theorem range_neg {l : List UInt8} (h : l.all digitB = true) (h0 : l ≠ []) (hv : 9223372036854775808 < valL 0 l) : Lib.parseIntB 64 (45 :: l) = .range := by
  have e3 : (45 : UInt8).toNat = 45 := rfl
  unfold Lib.parseIntB
  simp only [e3]
  rw [if_pos (Or.inr trivial)]
  unfold Lib.parseUintB
  rw [if_neg h0]
  by_cases hb : valL 0 l ≤ 18446744073709551615
  · rw [parse_val (2 ^ 64 - 1) (by decide) l 0 h (by omega)]
    simp only
    rw [if_neg (by rintro ⟨h, _⟩; exact h trivial), if_pos ⟨trivial, by show 2 ^ 63 < _; omega⟩]
  · have := parse_big l 0 h (by omega) (by omega)
    rw [show (2 ^ 64 - 1 : Nat) = 18446744073709551615 from rfl, this]

set_option maxHeartbeats 2000000 in
theorem cParse_over (s : ByteArray) (hs : s.size ≤ 1000000) (hn : namedB s.data.toList = false) (hu0 : numberL s.data.toList = true) (hv : Lib.parseIntB 64 s.data.toList = .range) (w : World) (ev : Value) (hc : w.cell? ⟨2, 0, none⟩ = some ev) (hev : ev = .nilIface ∨ ∃ te pe, ev = .iface te pe) (hb1 : 2 < w.heap.size) : Calls Tryz.prog 40 #[.string s] w (ParseTo w (six 0 false 0 ⟨#[]⟩) 9) := by
  obtain ⟨h1, h2, h3, h4, h5, h6⟩ := named_false hn
  have HN := Lib.hid hu0
  have HV := Lib.hid hv
  have HC := Lib.hid hc
  have HE := Lib.hid hev
  clear hn hu0 hv hc hev
  obtain ⟨dd, hu, hdd⟩ := Tryz.structV
  have DD := Lib.hid hdd
  have HU := Lib.hid hu
  clear hdd hu
  go_enter Tryz.func40, Tryz.ntmps40
  go_wp2_with (first
    | (go_at_call 65; refine (cnumber_any _ (by omega) _).mono ?_; rintro e w3 ⟨he, hb3⟩; rw [HN.out] at he; subst he
       have HB3 := Lib.hid hb3
       clear hb3)
    | (go_at_call 66; refine (Tryz.strconv_ParseInt_10_at64_range _ (by omega) HV.out ev _ (((((Below.refl w.heap.size w).alloc (Nat.le_refl _) _).trans (HB3.out.mono (by simp))).cell (p := ⟨2, 0, none⟩) hb1).trans HC.out) HE.out).mono ?_; rintro e w4 ⟨N, rfl, hN, hNc, hb4⟩
       obtain ⟨x0, f0⟩ := one_boxV (HB3.out.trans (hb4.mono HB3.out.size))
       have HB := Lib.hid (HB3.out.trans (hb4.mono HB3.out.size))
       have c0 := x0 0
       have c1 := x0 1
       have c2 := x0 2
       have c3 := x0 3
       have c4 := x0 4
       have c5 := x0 5
       simp at c0 c1 c2 c3 c4 c5
       clear x0 hb4 hN hNc))
  exact ret_cells_tmp w4 w.heap.size (six 0 false 0 ⟨#[]⟩).toList rfl Tryz.results40 rfl rfl DD.out HU.out Tryz.sizeV (cells6 c0 c1 c2 c3 c4 c5) ⟨rfl, setRow_below _ (Nat.le_refl _) _ _ _ (((Below.refl _ _).alloc (Nat.le_refl _) _).trans (HB.out.mono (by simp)))⟩

/-- What both Parses say of a word: the same value, the same error's number. -/
theorem parse_both (s : ByteArray) (hs : s.size ≤ 1000000) : ∃ (k : Int) (b : Bool) (n : Int) (x : ByteArray) (c : Int), (0 ≤ k ∧ k ≤ 3 ∧ x.size ≤ 1000000 ∧ -9223372036854775808 ≤ n ∧ n ≤ 9223372036854775807) ∧
    (∀ (w : World) (ev : Value), w.cell? ⟨2, 0, none⟩ = some ev → (ev = .nilIface ∨ ∃ te pe, ev = .iface te pe) → 2 < w.heap.size → Calls Tryz.prog 40 #[.string s] w (ParseTo w (six k b n x) c)) ∧
    (∀ w, Calls Tryz.prog 23 #[.string s] w (ParseTo w (six k b n x) c)) := by
  cases hn : namedB s.data.toList with
  | true =>
    have hw : ∀ l : List UInt8, s.data.toList = l → s = ⟨l.toArray⟩ := fun l h => by rw [← Lib.mk_data s, h]
    unfold namedB at hn
    simp only [Bool.or_eq_true, decide_eq_true_eq] at hn
    rcases hn with (((h | h) | h) | h) | h
    · rw [hw _ h]
      exact ⟨0, false, 0, ⟨#[]⟩, 0, ⟨by omega, by omega, by decide, by omega, by omega⟩, fun w _ _ _ _ => cParse_none w, fun w => r4Parse_none w⟩
    · rw [hw _ h]
      exact ⟨0, false, 0, ⟨#[]⟩, 0, ⟨by omega, by omega, by decide, by omega, by omega⟩, fun w _ _ _ _ => cParse_tilde w, fun w => r4Parse_tilde w⟩
    · rw [hw _ h]
      exact ⟨0, false, 0, ⟨#[]⟩, 0, ⟨by omega, by omega, by decide, by omega, by omega⟩, fun w _ _ _ _ => cParse_null w, fun w => r4Parse_null w⟩
    · rw [hw _ h]
      exact ⟨1, true, 0, ⟨#[]⟩, 0, ⟨by omega, by omega, by decide, by omega, by omega⟩, fun w _ _ _ _ => cParse_true w, fun w => r4Parse_true w⟩
    · rw [hw _ h]
      exact ⟨1, false, 0, ⟨#[]⟩, 0, ⟨by omega, by omega, by decide, by omega, by omega⟩, fun w _ _ _ _ => cParse_false w, fun w => r4Parse_false w⟩
  | false =>
    have h0 : 0 < s.size := by
      rcases Nat.eq_zero_or_pos s.size with h | h
      · have : s.data.toList = [] := List.eq_nil_of_length_eq_zero (by rw [← Lib.size_eq]; exact h)
        rw [this] at hn
        cases hn
      · exact h
    have hst := drop_step s 0 h0
    rw [List.drop_zero] at hst
    by_cases hm : s[0] = 45
    · have hm2 : ((s[0].toNat : Int) == 45) = true := by rw [hm]; rfl
      obtain ⟨D, hD⟩ : ∃ D, s.extract 1 s.size = D := ⟨_, rfl⟩
      have hDl : D.data.toList = s.data.toList.drop 1 := by rw [← hD, ext_drop]
      have hsl : s.data.toList = 45 :: D.data.toList := by rw [hDl, hst, hm]; rfl
      have hnum : numberL s.data.toList = (!decide (D.data.toList = []) && D.data.toList.all digitB) := by
        unfold numberL
        rw [hsl]
        have : Lib.trimPrefix (45 :: D.data.toList) [45] = D.data.toList := by simp [Lib.trimPrefix, Lib.hasPrefix, List.isPrefixOf]
        rw [this]
      have hr : ∀ w, Calls Tryz.prog 23 #[.string s] w (RefIn w (refL true D.data.toList s)) := fun w => r4Parse_neg s hs hn h0 hm2 D hD w
      by_cases hd : D.data.toList = [] ∨ D.data.toList.all digitB = false
      · have hf : numberL s.data.toList = false := by
          rw [hnum]
          rcases hd with h | h <;> rw [h] <;> simp
        rw [ref_other hd] at hr
        exact ⟨3, false, 0, s, 0, ⟨by omega, by omega, hs, by omega, by omega⟩, fun w _ _ _ _ => cParse_str s (by omega) hn hf w, hr⟩
      · have hne : D.data.toList ≠ [] := fun e => hd (.inl e)
        have hall : D.data.toList.all digitB = true := by
          cases e : D.data.toList.all digitB with
          | true => rfl
          | false => exact absurd (.inr e) hd
        have hf : numberL s.data.toList = true := by rw [hnum, hall, decide_eq_false hne]; rfl
        by_cases hv : 9223372036854775808 < valL 0 D.data.toList
        · rw [refL, if_neg hd, if_pos hv] at hr
          have hp := range_neg hall hne hv
          rw [← hsl] at hp
          exact ⟨0, false, 0, ⟨#[]⟩, 9, ⟨by omega, by omega, by decide, by omega, by omega⟩, fun w ev h1 h2 h3 => cParse_over s hs hn hf hp w ev h1 h2 h3, hr⟩
        · rw [refL, if_neg hd, if_neg hv, if_pos rfl] at hr
          have hp := parse_neg hall hne (by omega)
          rw [← hsl] at hp
          exact ⟨2, false, _, ⟨#[]⟩, 0, ⟨by omega, by omega, by decide, by omega, by omega⟩, fun w _ _ _ _ => cParse_int s (by omega) hn hf _ hp w, hr⟩
    · have hm2 : ((s[0].toNat : Int) == 45) = false := by rw [beq_eq_false_iff_ne]; exact fun e => hm (byteIs (by have : (45 : UInt8).toNat = 45 := rfl; omega))
      have hnum : numberL s.data.toList = (!decide (s.data.toList = []) && s.data.toList.all digitB) := by
        unfold numberL
        have : Lib.trimPrefix s.data.toList [45] = s.data.toList := by
          rw [hst]
          simp [Lib.trimPrefix, Lib.hasPrefix, List.isPrefixOf]
          intro e
          exact absurd e.symm hm
        rw [this]
      have hr : ∀ w, Calls Tryz.prog 23 #[.string s] w (RefIn w (refL false s.data.toList s)) := fun w => r4Parse_pos s hs hn h0 hm2 w
      by_cases hd : s.data.toList = [] ∨ s.data.toList.all digitB = false
      · have hf : numberL s.data.toList = false := by
          rw [hnum]
          rcases hd with h | h <;> rw [h] <;> simp
        rw [ref_other hd] at hr
        exact ⟨3, false, 0, s, 0, ⟨by omega, by omega, hs, by omega, by omega⟩, fun w _ _ _ _ => cParse_str s (by omega) hn hf w, hr⟩
      · have hne : s.data.toList ≠ [] := fun e => hd (.inl e)
        have hall : s.data.toList.all digitB = true := by
          cases e : s.data.toList.all digitB with
          | true => rfl
          | false => exact absurd (.inr e) hd
        have hf : numberL s.data.toList = true := by rw [hnum, hall, decide_eq_false hne]; rfl
        by_cases hv : 9223372036854775808 ≤ valL 0 s.data.toList
        · have hr2 : refL false s.data.toList s = (six 0 false 0 ⟨#[]⟩, 9) := by
            rw [refL, if_neg hd]
            by_cases hv2 : 9223372036854775808 < valL 0 s.data.toList
            · rw [if_pos hv2]
            · rw [if_neg hv2, if_neg (by decide), if_pos (by omega)]
          rw [hr2] at hr
          exact ⟨0, false, 0, ⟨#[]⟩, 9, ⟨by omega, by omega, by decide, by omega, by omega⟩, fun w ev h1 h2 h3 => cParse_over s hs hn hf (range_pos hall hne hv) w ev h1 h2 h3, hr⟩
        · rw [refL, if_neg hd, if_neg (by omega), if_neg (by decide), if_neg (by omega)] at hr
          exact ⟨2, false, _, ⟨#[]⟩, 0, ⟨by omega, by omega, by decide, by omega, by omega⟩, fun w _ _ _ _ => cParse_int s (by omega) hn hf _ (parse_pos hall hne (by omega)) w, hr⟩

end Go.Proofs.YtlniokpekcoodaaGreatDoor

/-
  ValuesWords: the law's contract.
-/
set_option linter.unusedVariables false
set_option linter.unusedSimpArgs false
namespace Go.Proofs.YtlniokpekcoodaaGreatDoor
open Go.RowKit

theorem quoteZ (s : ByteArray) : (⟨(quoteL s.data.toList).toArray⟩ : ByteArray).size ≤ 2 + 2 * s.size := by
  rw [Lib.size_eq]
  have := esc_len s.data.toList
  simp only [quoteL, List.length_cons, List.length_append, List.length_nil]
  rw [← Lib.size_eq] at this
  omega
theorem singleZ (s : ByteArray) : (⟨(singleL s.data.toList).toArray⟩ : ByteArray).size ≤ 2 + 2 * s.size := by
  rw [Lib.size_eq]
  have := sq_len s.data.toList
  simp only [singleL, List.length_cons, List.length_append, List.length_nil]
  rw [← Lib.size_eq] at this
  omega
/-- Word of a text in quotes, of either kind. -/
theorem word_quote (s : ByteArray) (hs : s.size ≤ 100000) (m : Int) (w : World) (hm : w.cell? ⟨0, 0, none⟩ = some (.int .i64 m)) (h0 : 0 < w.heap.size) :
    Calls Tryz.prog 19 #[.string ⟨(quoteL s.data.toList).toArray⟩] w (ParseTo w (six 3 false 0 s) 0) := by
  refine vWord_quoted _ (by have := quoteZ s; omega) (by simp [quotedB, quoteL, Lib.hasPrefix]) m w hm h0 3 s 0 ?_
  have h := unq_quote s.data.toList []
  rw [List.append_nil] at h
  rw [show (⟨(quoteL s.data.toList).toArray⟩ : ByteArray).data.toList = quoteL s.data.toList from rfl, h, wordQ, Lib.mk_data]
theorem word_single (s : ByteArray) (hs : s.size ≤ 100000) (m : Int) (w : World) (hm : w.cell? ⟨0, 0, none⟩ = some (.int .i64 m)) (h0 : 0 < w.heap.size) :
    Calls Tryz.prog 19 #[.string ⟨(singleL s.data.toList).toArray⟩] w (ParseTo w (six 3 false 0 s) 0) := by
  refine vWord_quoted _ (by have := singleZ s; omega) (by simp [quotedB, singleL, Lib.hasPrefix]) m w hm h0 3 s 0 ?_
  have h := unq_single s.data.toList [] rfl
  rw [List.append_nil] at h
  rw [show (⟨(singleL s.data.toList).toArray⟩ : ByteArray).data.toList = singleL s.data.toList from rfl, h, wordQ, Lib.mk_data]

end Go.Proofs.YtlniokpekcoodaaGreatDoor
