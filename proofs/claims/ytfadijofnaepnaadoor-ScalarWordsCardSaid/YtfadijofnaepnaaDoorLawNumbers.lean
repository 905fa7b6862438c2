/-
  ScalarNumbers: the law's contract.
-/
import Derived.Test.YtfadijofnaepnaaDoorCPrintN
set_option linter.unusedVariables false
set_option linter.unusedSimpArgs false
namespace Go.Proofs.YtfadijofnaepnaaDoor
open Go.RowKit

theorem dec_len : ∀ (k u : Nat), 0 < k → u < 10 ^ k → (Lib.decDigits u).length ≤ k
  | 0, u, h, _ => absurd h (Nat.lt_irrefl 0)
  | k + 1, u, _, h => by
    rw [Lib.decDigits]
    by_cases h10 : u < 10
    · rw [dif_pos h10]; simp
    · rw [dif_neg h10, List.length_append]
      have hk : 0 < k := by
        rcases Nat.eq_zero_or_pos k with e | e
        · subst e; omega
        · exact e
      have := dec_len k (u / 10) hk (by rw [Nat.pow_succ] at h; omega)
      simp
      exact this

/-- What is known of a numeral's text. -/
structure Numeral (p : ByteArray) (n : Int) : Prop where
  named : namedB p.data.toList = false
  number : numberL p.data.toList = true
  parse : Lib.parseIntB 64 p.data.toList = .ok n
  bare : bareL p.data.toList = false
  size : p.size ≤ 40

theorem zeros_take (k : Nat) (hk : k ≤ 8) : ((⟨#[48, 48, 48, 48, 48, 48, 48, 48]⟩ : ByteArray).extract 0 k).data.toList = List.replicate k 48 := by
  rw [Lib.extract_eq]
  have : ∀ k : Fin 9, List.take (k.val - 0) (List.drop 0 (⟨#[48, 48, 48, 48, 48, 48, 48, 48]⟩ : ByteArray).data.toList) = List.replicate k.val 48 := by decide
  exact this ⟨k, by omega⟩

theorem num_pos {n : Int} (h0 : 0 ≤ n) (h1 : n ≤ 9223372036854775807) (k : Nat) (hk : k ≤ 8) (p : ByteArray) (hp : p.data.toList = List.replicate k 48 ++ Lib.decDigits n.toNat) : Numeral p n := by
  obtain ⟨a1, a2, a3⟩ := nat_digits k n.toNat
  obtain ⟨b1, b2, b3, _⟩ := digits_word a1 a3
  have hpar := parse_pos a1 a3 (by rw [a2]; omega)
  rw [a2] at hpar
  have hl := dec_len 19 n.toNat (by omega) (by omega)
  rw [← hp] at b1 b2 b3 hpar
  refine ⟨b2, b1, ?_, b3, ?_⟩
  · rw [hpar]
    congr 1
    omega
  · rw [Lib.size_eq, hp]
    simp
    omega
theorem num_neg {n : Int} (h0 : n < 0) (h1 : -9223372036854775808 ≤ n) (k : Nat) (hk : k ≤ 8) (p : ByteArray) (hp : p.data.toList = 45 :: (List.replicate k 48 ++ Lib.decDigits n.natAbs)) : Numeral p n := by
  obtain ⟨a1, a2, a3⟩ := nat_digits k n.natAbs
  obtain ⟨_, _, _, b1, b2, b3⟩ := digits_word a1 a3
  have hpar := parse_neg a1 a3 (by rw [a2]; omega)
  rw [a2] at hpar
  have hl := dec_len 19 n.natAbs (by omega) (by omega)
  rw [← hp] at b1 b2 b3 hpar
  refine ⟨b2, b1, ?_, b3, ?_⟩
  · rw [hpar]
    congr 1
    omega
  · rw [Lib.size_eq, hp]
    simp
    omega

/-- A text in quotes is no word of anything but itself. -/
theorem quoted_word (l : List UInt8) : namedB (quoteL l) = false ∧ numberL (quoteL l) = false := by
  constructor
  · simp [namedB, quoteL]
  · have hp : Lib.trimPrefix (quoteL l) [45] = quoteL l := by
      unfold Lib.trimPrefix Lib.hasPrefix quoteL
      have : List.isPrefixOf [45] (34 :: (l.flatMap escB ++ [34])) = false := by simp [List.isPrefixOf]
      rw [this]
      rfl
    unfold numberL
    rw [hp]
    simp [quoteL, show digitB 34 = false by decide]

set_option maxRecDepth 100000 in
set_option maxHeartbeats 4000000 in
theorem scalarNumbers_any (n : Int) (c : UInt8) (h0 : -9223372036854775808 ≤ n) (h1 : n ≤ 9223372036854775807) (w : World) (hpow : Pow10 w) :
    Calls Tryd.prog 6 #[.int .i64 n, .int .u8 c.toNat] w fun e w' => e = .returned (.bool true) ∧ Below w.heap.size w w' := by
  have hc := c.toNat_lt
  have HP0 := Lib.hid hpow
  clear hpow
  obtain ⟨k, hk⟩ : ∃ k, k = c.toNat % 9 := ⟨_, rfl⟩
  have hk8 : k ≤ 8 := by omega
  have hm1 : (c.toNat : Int) % 9 = k := by omega
  have hm2 : (c.toNat : Int).tmod 9 = k := by
    rw [Int.tmod_eq_emod_of_nonneg (by omega)]
    exact hm1
  obtain ⟨sI, hsI⟩ : ∃ sI : ByteArray, (⟨(Lib.itoa n).toArray⟩ : ByteArray) = sI := ⟨_, rfl⟩
  have HI := Lib.hid hsI
  have HL : Hid (sI.data.toList = Lib.itoa n) := by show _ = _; rw [← hsI]
  clear hsI hk
  by_cases hn : 0 ≤ n
  · have NI : Hid (Numeral sI n) := num_pos hn h1 0 (by omega) sI (by rw [HL.out, itoa_pos hn]; rfl)
    obtain ⟨PP, hPP⟩ : ∃ PP : ByteArray, ((⟨#[48, 48, 48, 48, 48, 48, 48, 48]⟩ : ByteArray).extract 0 k ++ sI) = PP := ⟨_, rfl⟩
    have NP : Hid (Numeral PP n) := num_pos hn h1 k hk8 PP (by rw [← hPP, ByteArray.data_append, Array.toList_append, zeros_take k hk8, HL.out, itoa_pos hn])
    obtain ⟨wq, hwq⟩ : ∃ wq : ByteArray, wordB PP = wq := ⟨_, rfl⟩
    have HW := Lib.hid hwq
    have hwq2 : wq = ⟨(quoteL PP.data.toList).toArray⟩ := by rw [← hwq, wordB, if_neg (by rw [NP.out.bare]; decide)]
    have HQ1 : Hid (namedB wq.data.toList = false) := by show _ = _; rw [hwq2]; exact (quoted_word _).1
    have HQ2 : Hid (numberL wq.data.toList = false) := by show _ = _; rw [hwq2]; exact (quoted_word _).2
    have hwz : wq.size ≤ 100 := by
      rw [hwq2, Lib.size_eq]
      have h1 := esc_len PP.data.toList
      have h2 := NP.out.size
      rw [Lib.size_eq] at h2
      simp only [quoteL, List.length_cons, List.length_append, List.length_nil]
      omega
    have hpz := NP.out.size
    have hiz := NI.out.size
    have HPP := Lib.hid hPP
    clear hwq hwq2 hPP
    have hez : ((⟨#[48, 48, 48, 48, 48, 48, 48, 48]⟩ : ByteArray).extract 0 k).size ≤ 8 := by rw [Lib.size_eq, zeros_take k hk8]; simp; omega
    go_enter Tryd.func6, Tryd.ntmps6
    go_wp2_with (first
      | (go_at_call 23; have hy := HC4; refine (tInt_flat _ _).mono ?_; rintro e w5 ⟨rfl, hb⟩
         have HC5 := Lib.hid (HC4.out.trans (hb.mono HC4.out.size))
         clear hb)
      | (go_at_call 23; refine (tInt_flat _ _).mono ?_; rintro e w1 ⟨rfl, hb⟩
         have HC1 := Lib.hid hb
         clear hb)
      | ((with_reducible refine (cPrint_int _ n _ _ _ _ _ _ _ h0 h1 _ (HP0.out.below HC1.out)).mono ?_); rintro e w2 ⟨he, hb⟩
         rw [HI.out] at he
         subst he
         have HC2 := Lib.hid (HC1.out.trans (hb.mono HC1.out.size))
         clear hb)
      | ((with_reducible refine (cParse_int sI (by have := NI.out.size; omega) NI.out.named NI.out.number n NI.out.parse _).mono ?_); rintro e w3 ⟨rfl, hb⟩
         have hb3 := HC2.out.trans (hb.mono HC2.out.size)
         have HC4 := Lib.hid (hb3.alloc hb3.size (.cells (six 2 false n ⟨#[]⟩) 25))
         have hx : ∀ j v, (six 2 false n ⟨#[]⟩)[j]? = some v → (w3.alloc (.cells (six 2 false n ⟨#[]⟩) 25)).cell? ⟨w3.heap.size, j, none⟩ = some v := fun j v h => by rw [World.cell?_alloc_new]; exact h
         have c0 := hx 0 _ rfl
         have c2 := hx 2 _ rfl
         clear hx hb hb3)
      | ((with_reducible refine (cBare_any sI (by have := NI.out.size; omega) _).mono ?_); rintro e w4 ⟨he, hw4⟩; rw [NI.out.bare] at he; subst he hw4)
      | ((with_reducible refine (cText_int _ n _ _ _ _ _ _ _ h0 h1 _ (HP0.out.below HC5.out)).mono ?_); rintro e w6 ⟨he, hb⟩
         rw [HI.out] at he
         subst he
         have HC6 := Lib.hid (HC5.out.trans (hb.mono HC5.out.size))
         clear hb c0 c2))
    rw [HPP.out]
    go_wp2_with (first
      | ((with_reducible refine (cParse_int PP (by have := NP.out.size; omega) NP.out.named NP.out.number n NP.out.parse _).mono ?_); rintro e w7 ⟨rfl, hb⟩
         have hb7 := HC6.out.trans (hb.mono HC6.out.size)
         have HC7 := Lib.hid (hb7.alloc hb7.size (.cells (six 2 false n ⟨#[]⟩) 25))
         have HX7 : Hid (∀ j v, (six 2 false n ⟨#[]⟩)[j]? = some v → (w7.alloc (.cells (six 2 false n ⟨#[]⟩) 25)).cell? ⟨w7.heap.size, j, none⟩ = some v) := fun j v h => by rw [World.cell?_alloc_new]; exact h
         clear hb hb7)
      | ((with_reducible refine (tStr_flat PP _).mono ?_); rintro e w8 ⟨rfl, hb⟩
         have HC8 := Lib.hid (HC7.out.trans (hb.mono HC7.out.size))
         have HD8 := Lib.hid hb
         clear hb)
      | ((with_reducible refine (cPrint_str _ _ PP _ _ _ _ _ _ (by have := NP.out.size; omega) _).mono ?_); rintro e w9 ⟨he, hb⟩
         rw [HW.out] at he
         subst he
         have HC9 := Lib.hid (HC8.out.trans (hb.mono HC8.out.size))
         have HD9 := Lib.hid (HD8.out.trans (hb.mono HD8.out.size))
         clear hb)
      | ((with_reducible refine (cParse_str wq (by omega) HQ1.out HQ2.out _).mono ?_); rintro e w10 ⟨rfl, hb⟩
         have hb10 := HC9.out.trans (hb.mono HC9.out.size)
         have hd10 := HD9.out.trans (hb.mono HD9.out.size)
         have HC10 := Lib.hid (hb10.alloc hb10.size (.cells (six 3 false 0 wq) 25))
         have HD10 := Lib.hid (hd10.alloc hd10.size (.cells (six 3 false 0 wq) 25))
         have HX10 : Hid (∀ j v, (six 3 false 0 wq)[j]? = some v → (w10.alloc (.cells (six 3 false 0 wq) 25)).cell? ⟨w10.heap.size, j, none⟩ = some v) := fun j v h => by rw [World.cell?_alloc_new]; exact h
         clear hb hb10 hd10)
      | (go_at_call 9; refine (law4awake_any _).mono ?_; rintro e w11 ⟨rfl, hb⟩
         have HC11 := Lib.hid (HC10.out.trans (hb.mono HC10.out.size))
         have hd11 := HD10.out.trans (hb.mono HD10.out.size)
         have c2 : w11.cell? ⟨w7.heap.size, 2, none⟩ = some (.int .i64 n) := (hd11.cell (p := ⟨w7.heap.size, 2, none⟩) (by simp)).trans (HX7.out 2 _ rfl)
         have e0 : w11.cell? ⟨w10.heap.size, 0, none⟩ = some (.int .i64 3) := (hb.cell (p := ⟨w10.heap.size, 0, none⟩) (by simp)).trans (HX10.out 0 _ rfl)
         clear hb hd11))
    go_ret
    exact ⟨rfl, HC11.out⟩

  · have NI : Hid (Numeral sI n) := num_neg (by omega) h0 0 (by omega) sI (by rw [HL.out, itoa_neg (by omega)]; rfl)
    obtain ⟨PP, hPP⟩ : ∃ PP : ByteArray, ((⟨#[45]⟩ : ByteArray) ++ (⟨#[48, 48, 48, 48, 48, 48, 48, 48]⟩ : ByteArray).extract 0 k ++ sI.extract 1 sI.size) = PP := ⟨_, rfl⟩
    have NP : Hid (Numeral PP n) := num_neg (by omega) h0 k hk8 PP (by rw [← hPP, ByteArray.data_append, Array.toList_append, ByteArray.data_append, Array.toList_append, zeros_take k hk8, ext_drop, HL.out, itoa_neg (by omega)]; rfl)
    obtain ⟨wq, hwq⟩ : ∃ wq : ByteArray, wordB PP = wq := ⟨_, rfl⟩
    have HW := Lib.hid hwq
    have hwq2 : wq = ⟨(quoteL PP.data.toList).toArray⟩ := by rw [← hwq, wordB, if_neg (by rw [NP.out.bare]; decide)]
    have HQ1 : Hid (namedB wq.data.toList = false) := by show _ = _; rw [hwq2]; exact (quoted_word _).1
    have HQ2 : Hid (numberL wq.data.toList = false) := by show _ = _; rw [hwq2]; exact (quoted_word _).2
    have hwz : wq.size ≤ 100 := by
      rw [hwq2, Lib.size_eq]
      have h1 := esc_len PP.data.toList
      have h2 := NP.out.size
      rw [Lib.size_eq] at h2
      simp only [quoteL, List.length_cons, List.length_append, List.length_nil]
      omega
    have hpz := NP.out.size
    have hiz := NI.out.size
    have HPP := Lib.hid hPP
    clear hwq hwq2 hPP
    have hez : ((⟨#[48, 48, 48, 48, 48, 48, 48, 48]⟩ : ByteArray).extract 0 k).size ≤ 8 := by rw [Lib.size_eq, zeros_take k hk8]; simp; omega
    have z45 : (⟨#[45]⟩ : ByteArray).size = 1 := rfl
    have hez2 : ((⟨#[45]⟩ : ByteArray) ++ (⟨#[48, 48, 48, 48, 48, 48, 48, 48]⟩ : ByteArray).extract 0 k).size ≤ 9 := by rw [ByteArray.size_append]; omega
    have hez3 : (sI.extract 1 sI.size).size ≤ 40 := by simp; omega
    have hi1 : 1 ≤ sI.size := by rw [Lib.size_eq, HL.out, itoa_neg (by omega)]; simp
    go_enter Tryd.func6, Tryd.ntmps6
    go_wp2_with (first
      | (go_at_call 23; have hy := HC4; refine (tInt_flat _ _).mono ?_; rintro e w5 ⟨rfl, hb⟩
         have HC5 := Lib.hid (HC4.out.trans (hb.mono HC4.out.size))
         clear hb)
      | (go_at_call 23; refine (tInt_flat _ _).mono ?_; rintro e w1 ⟨rfl, hb⟩
         have HC1 := Lib.hid hb
         clear hb)
      | ((with_reducible refine (cPrint_int _ n _ _ _ _ _ _ _ h0 h1 _ (HP0.out.below HC1.out)).mono ?_); rintro e w2 ⟨he, hb⟩
         rw [HI.out] at he
         subst he
         have HC2 := Lib.hid (HC1.out.trans (hb.mono HC1.out.size))
         clear hb)
      | ((with_reducible refine (cParse_int sI (by have := NI.out.size; omega) NI.out.named NI.out.number n NI.out.parse _).mono ?_); rintro e w3 ⟨rfl, hb⟩
         have hb3 := HC2.out.trans (hb.mono HC2.out.size)
         have HC4 := Lib.hid (hb3.alloc hb3.size (.cells (six 2 false n ⟨#[]⟩) 25))
         have hx : ∀ j v, (six 2 false n ⟨#[]⟩)[j]? = some v → (w3.alloc (.cells (six 2 false n ⟨#[]⟩) 25)).cell? ⟨w3.heap.size, j, none⟩ = some v := fun j v h => by rw [World.cell?_alloc_new]; exact h
         have c0 := hx 0 _ rfl
         have c2 := hx 2 _ rfl
         clear hx hb hb3)
      | ((with_reducible refine (cBare_any sI (by have := NI.out.size; omega) _).mono ?_); rintro e w4 ⟨he, hw4⟩; rw [NI.out.bare] at he; subst he hw4)
      | ((with_reducible refine (cText_int _ n _ _ _ _ _ _ _ h0 h1 _ (HP0.out.below HC5.out)).mono ?_); rintro e w6 ⟨he, hb⟩
         rw [HI.out] at he
         subst he
         have HC6 := Lib.hid (HC5.out.trans (hb.mono HC5.out.size))
         clear hb c0 c2))
    rw [HPP.out]
    go_wp2_with (first
      | ((with_reducible refine (cParse_int PP (by have := NP.out.size; omega) NP.out.named NP.out.number n NP.out.parse _).mono ?_); rintro e w7 ⟨rfl, hb⟩
         have hb7 := HC6.out.trans (hb.mono HC6.out.size)
         have HC7 := Lib.hid (hb7.alloc hb7.size (.cells (six 2 false n ⟨#[]⟩) 25))
         have HX7 : Hid (∀ j v, (six 2 false n ⟨#[]⟩)[j]? = some v → (w7.alloc (.cells (six 2 false n ⟨#[]⟩) 25)).cell? ⟨w7.heap.size, j, none⟩ = some v) := fun j v h => by rw [World.cell?_alloc_new]; exact h
         clear hb hb7)
      | ((with_reducible refine (tStr_flat PP _).mono ?_); rintro e w8 ⟨rfl, hb⟩
         have HC8 := Lib.hid (HC7.out.trans (hb.mono HC7.out.size))
         have HD8 := Lib.hid hb
         clear hb)
      | ((with_reducible refine (cPrint_str _ _ PP _ _ _ _ _ _ (by have := NP.out.size; omega) _).mono ?_); rintro e w9 ⟨he, hb⟩
         rw [HW.out] at he
         subst he
         have HC9 := Lib.hid (HC8.out.trans (hb.mono HC8.out.size))
         have HD9 := Lib.hid (HD8.out.trans (hb.mono HD8.out.size))
         clear hb)
      | ((with_reducible refine (cParse_str wq (by omega) HQ1.out HQ2.out _).mono ?_); rintro e w10 ⟨rfl, hb⟩
         have hb10 := HC9.out.trans (hb.mono HC9.out.size)
         have hd10 := HD9.out.trans (hb.mono HD9.out.size)
         have HC10 := Lib.hid (hb10.alloc hb10.size (.cells (six 3 false 0 wq) 25))
         have HD10 := Lib.hid (hd10.alloc hd10.size (.cells (six 3 false 0 wq) 25))
         have HX10 : Hid (∀ j v, (six 3 false 0 wq)[j]? = some v → (w10.alloc (.cells (six 3 false 0 wq) 25)).cell? ⟨w10.heap.size, j, none⟩ = some v) := fun j v h => by rw [World.cell?_alloc_new]; exact h
         clear hb hb10 hd10)
      | (go_at_call 9; refine (law4awake_any _).mono ?_; rintro e w11 ⟨rfl, hb⟩
         have HC11 := Lib.hid (HC10.out.trans (hb.mono HC10.out.size))
         have hd11 := HD10.out.trans (hb.mono HD10.out.size)
         have c2 : w11.cell? ⟨w7.heap.size, 2, none⟩ = some (.int .i64 n) := (hd11.cell (p := ⟨w7.heap.size, 2, none⟩) (by simp)).trans (HX7.out 2 _ rfl)
         have e0 : w11.cell? ⟨w10.heap.size, 0, none⟩ = some (.int .i64 3) := (hb.cell (p := ⟨w10.heap.size, 0, none⟩) (by simp)).trans (HX10.out 0 _ rfl)
         clear hb hd11))
    go_ret
    exact ⟨rfl, HC11.out⟩

end Go.Proofs.YtfadijofnaepnaaDoor
