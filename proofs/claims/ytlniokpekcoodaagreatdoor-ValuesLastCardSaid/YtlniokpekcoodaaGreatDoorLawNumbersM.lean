/-
  ScalarNumbers: the law's contract.
-/
import Derived.Test.YtlniokpekcoodaaGreatDoorCPrintNM
import Derived.Test.YtlniokpekcoodaaGreatDoorValSet
import Derived.Test.YtlniokpekcoodaaGreatDoorSetP
import Derived.DataShut
set_option linter.unusedVariables false
set_option linter.unusedSimpArgs false
namespace Go.Proofs.YtlniokpekcoodaaGreatDoor
open Go.RowKit

theorem dec_len : ∀ (k u : Nat), 0 < k → u < 10 ^ k → (Lib.decDigits u).length ≤ k
  | 0, u, h, _ => absurd h (Nat.lt_irrefl 0)
  | k + 1, u, _, h => by
    rw [Lib.decDigits]
    by_cases h10 : u < 10
    · rw [dif_pos h10]; simp
    · rw [dif_neg h10, List.length_append]
      have hk : 0 < k := by
        rcases Nat.eq_zero_or_pos k with e | e
        · subst e; omega
        · exact e
      have := dec_len k (u / 10) hk (by rw [Nat.pow_succ] at h; omega)
      simp
      exact this

/-- What is known of a numeral's text. -/
structure Numeral (p : ByteArray) (n : Int) : Prop where
  named : namedB p.data.toList = false
  number : numberL p.data.toList = true
  parse : Lib.parseIntB 64 p.data.toList = .ok n
  bare : bareL p.data.toList = false
  size : p.size ≤ 40

theorem zeros_take (k : Nat) (hk : k ≤ 8) : ((⟨#[48, 48, 48, 48, 48, 48, 48, 48]⟩ : ByteArray).extract 0 k).data.toList = List.replicate k 48 := by
  rw [Lib.extract_eq]
  have : ∀ k : Fin 9, List.take (k.val - 0) (List.drop 0 (⟨#[48, 48, 48, 48, 48, 48, 48, 48]⟩ : ByteArray).data.toList) = List.replicate k.val 48 := by decide
  exact this ⟨k, by omega⟩

theorem num_pos {n : Int} (h0 : 0 ≤ n) (h1 : n ≤ 9223372036854775807) (k : Nat) (hk : k ≤ 8) (p : ByteArray) (hp : p.data.toList = List.replicate k 48 ++ Lib.decDigits n.toNat) : Numeral p n := by
  obtain ⟨a1, a2, a3⟩ := nat_digits k n.toNat
  obtain ⟨b1, b2, b3, _⟩ := digits_word a1 a3
  have hpar := parse_pos a1 a3 (by rw [a2]; omega)
  rw [a2] at hpar
  have hl := dec_len 19 n.toNat (by omega) (by omega)
  rw [← hp] at b1 b2 b3 hpar
  refine ⟨b2, b1, ?_, b3, ?_⟩
  · rw [hpar]
    congr 1
    omega
  · rw [Lib.size_eq, hp]
    simp
    omega
theorem num_neg {n : Int} (h0 : n < 0) (h1 : -9223372036854775808 ≤ n) (k : Nat) (hk : k ≤ 8) (p : ByteArray) (hp : p.data.toList = 45 :: (List.replicate k 48 ++ Lib.decDigits n.natAbs)) : Numeral p n := by
  obtain ⟨a1, a2, a3⟩ := nat_digits k n.natAbs
  obtain ⟨_, _, _, b1, b2, b3⟩ := digits_word a1 a3
  have hpar := parse_neg a1 a3 (by rw [a2]; omega)
  rw [a2] at hpar
  have hl := dec_len 19 n.natAbs (by omega) (by omega)
  rw [← hp] at b1 b2 b3 hpar
  refine ⟨b2, b1, ?_, b3, ?_⟩
  · rw [hpar]
    congr 1
    omega
  · rw [Lib.size_eq, hp]
    simp
    omega

/-- A text in quotes is no word of anything but itself. -/
theorem quoted_word (l : List UInt8) : namedB (quoteL l) = false ∧ numberL (quoteL l) = false := by
  constructor
  · simp [namedB, quoteL]
  · have hp : Lib.trimPrefix (quoteL l) [45] = quoteL l := by
      unfold Lib.trimPrefix Lib.hasPrefix quoteL
      have : List.isPrefixOf [45] (34 :: (l.flatMap escB ++ [34])) = false := by simp [List.isPrefixOf]
      rw [this]
      rfl
    unfold numberL
    rw [hp]
    simp [quoteL, show digitB 34 = false by decide]

end Go.Proofs.YtlniokpekcoodaaGreatDoor

/-
  Set at a path that is joined of words, with a number, or with nothing.
-/
set_option linter.unusedVariables false
set_option linter.unusedSimpArgs false
namespace Go.Proofs.YtlniokpekcoodaaGreatDoor
open Go.RowKit

/-- A text cut at its first equals sign. -/
theorem cut_eq_here (r : List UInt8) : Lib.cut (61 :: r) [61] = ([], r, true) := by
  have : Lib.index (61 :: r) [61] = 0 := by rw [Lib.index_one]; rfl
  unfold Lib.cut
  rw [this]
  rfl
theorem cut_eq_on (r : List UInt8) {c : UInt8} (h : c ≠ 61) {p q : List UInt8} (hc : Lib.cut r [61] = (p, q, true)) : Lib.cut (c :: r) [61] = (c :: p, q, true) := by
  have e : Lib.index (c :: r) [61] = if Lib.index r [61] == -1 then -1 else Lib.index r [61] + 1 := by
    rw [Lib.index_one, Lib.index_one, Lib.indexByte, show (c == 61) = false from beq_eq_false_iff_ne.2 h]
    rfl
  unfold Lib.cut at hc ⊢
  rw [e]
  by_cases h0 : 0 ≤ Lib.index r [61]
  · have n1 : (Lib.index r [61] == -1) = false := by rw [beq_eq_false_iff_ne]; omega
    rw [if_pos h0] at hc
    rw [n1]
    simp only [Bool.false_eq_true, if_false]
    rw [if_pos (by omega)]
    injection hc with h1 h2
    injection h2 with h2 h3
    subst h1 h2
    have : (Lib.index r [61] + 1).toNat = (Lib.index r [61]).toNat + 1 := by omega
    rw [this]
    rfl
  · rw [if_neg h0] at hc
    injection hc with h1 h2
    injection h2 with h2 h3
    cases h3
theorem cut_eq_at (r : List UInt8) : ∀ a : List UInt8, (61 : UInt8) ∉ a → Lib.cut (a ++ 61 :: r) [61] = (a, r, true)
  | [], _ => cut_eq_here r
  | c :: a, h => by
    rw [List.cons_append]
    exact cut_eq_on _ (fun e => h (by simp [e])) (cut_eq_at r a fun hm => h (by simp [hm]))

/-- A path as it is written. -/
structure PathOf (ks : List ByteArray) (p : ByteArray) : Prop where
  join : p.data.toList = joinD (datS ks)
  words : ∀ k ∈ ks, wordL k.data.toList = true
  some : ks ≠ []
  few : ks.length ≤ 15
theorem PathOf.dot {ks : List ByteArray} {p : ByteArray} (h : PathOf ks p) : ∀ a ∈ datS ks, (46 : UInt8) ∉ a := fun a ha => by
  obtain ⟨k, hk, rfl⟩ := List.mem_map.1 ha
  exact word_dot (h.words k hk)
theorem PathOf.parse {ks : List ByteArray} {p : ByteArray} (h : PathOf ks p) : parseD p.data.toList = (datS ks, 0) := by
  have hne : datS ks ≠ [] := by
    unfold datS
    intro e
    exact h.some (List.map_eq_nil_iff.1 e)
  have hlen : (datS ks).length = ks.length := by unfold datS; rw [List.length_map]
  have hall : (datS ks).all wordL = true := by
    rw [List.all_eq_true]
    intro a ha
    obtain ⟨k, hk, rfl⟩ := List.mem_map.1 ha
    exact h.words k hk
  unfold parseD
  rw [h.join, cutD_join _ hne h.dot, if_neg (by have := h.few; omega), hall, if_pos rfl]
theorem PathOf.steps {ks : List ByteArray} {p : ByteArray} (h : PathOf ks p) : stepsD p.data.toList = ks := by
  unfold stepsD
  rw [h.parse]
  exact (dat_inj (xs := ks) rfl).symm
theorem word_eq {l : List UInt8} (h : wordL l = true) : (61 : UInt8) ∉ l := fun hm => by
  unfold wordL at h
  simp only [Bool.and_eq_true] at h
  have := (List.all_eq_true.1 h.1.1) _ hm
  revert this
  decide
theorem join_eq : ∀ L : List (List UInt8), (∀ a ∈ L, (61 : UInt8) ∉ a) → (61 : UInt8) ∉ joinD L
  | [], _ => by rw [show joinD [] = [] from rfl]; simp
  | [a], h => by rw [joinD_one]; exact h a (by simp)
  | a :: b :: r, h => by
    rw [joinD_cons]
    intro hm
    rcases List.mem_append.1 hm with hm | hm
    · exact h a (by simp) hm
    · rcases List.mem_cons.1 hm with hm | hm
      · revert hm; decide
      · exact join_eq (b :: r) (fun x hx => h x (by simp only [List.mem_cons] at hx ⊢; exact .inr hx)) hm
theorem PathOf.eq {ks : List ByteArray} {p : ByteArray} (h : PathOf ks p) : (61 : UInt8) ∉ p.data.toList := by
  rw [h.join]
  refine join_eq _ fun a ha => ?_
  obtain ⟨k, hk, rfl⟩ := List.mem_map.1 ha
  exact word_eq (h.words k hk)
theorem PathOf.cut {ks : List ByteArray} {p : ByteArray} (h : PathOf ks p) (q : ByteArray) : CutAt (p ++ ⟨#[61]⟩ ++ q) p q true := by
  unfold CutAt
  have : (p ++ ⟨#[61]⟩ ++ q).data.toList = p.data.toList ++ 61 :: q.data.toList := by simp [ByteArray.data_append]
  rw [this]
  exact cut_eq_at _ _ h.eq
theorem PathOf.setR {ks : List ByteArray} {p : ByteArray} (h : PathOf ks p) (t x : T) : setR t true p.data.toList x 0 = overC (T.over t (pathU ks x)) := by
  rw [Go.Proofs.YtlniokpekcoodaaGreatDoor.setR, if_neg (by simp), if_neg (by rw [h.parse]; simp), if_neg (by simp), h.steps, put_five]

/-- A number's word. -/
theorem numeral_itoa {n : Int} (h0 : -9223372036854775808 ≤ n) (h1 : n ≤ 9223372036854775807) : Numeral ⟨(Lib.itoa n).toArray⟩ n := by
  by_cases h : 0 ≤ n
  · exact num_pos h h1 0 (by omega) _ (by show Lib.itoa n = _; rw [itoa_pos h]; rfl)
  · exact num_neg (by omega) h0 0 (by omega) _ (by show Lib.itoa n = _; rw [itoa_neg (by omega)]; rfl)
theorem numeral_bare {p : ByteArray} {n : Int} (h : Numeral p n) : quotedB p.data.toList = false := by
  have hn := h.number
  unfold numberL at hn
  simp only [Bool.and_eq_true] at hn
  have h2 := hn.2
  unfold quotedB
  cases e : p.data.toList with
  | nil => rfl
  | cons c r =>
    rw [e] at h2
    by_cases hc : c = 45
    · subst hc; rfl
    · have ht : Lib.trimPrefix (c :: r) [45] = c :: r := by
        have : Lib.hasPrefix (c :: r) [45] = false := by simp [Lib.hasPrefix, List.isPrefixOf]; exact fun e => hc e.symm
        simp [Lib.trimPrefix, this]
      rw [ht, List.all_cons, Bool.and_eq_true] at h2
      have hd := h2.1
      unfold digitB at hd
      simp only [Bool.and_eq_true, decide_eq_true_eq] at hd
      have n1 : c ≠ 34 := fun e => by subst e; have : (34 : UInt8).toNat = 34 := rfl; omega
      have n2 : c ≠ 39 := fun e => by subst e; have : (39 : UInt8).toNat = 39 := rfl; omega
      simp [Lib.hasPrefix, List.isPrefixOf]
      exact ⟨fun e => n1 e.symm, fun e => n2 e.symm⟩

def intT (n : Int) : T := .mk 2 false n ⟨#[]⟩ [] []
theorem set_int {w0 : World} {R : Nat → Prop} {t : T} {cs : Array Value} {ks : List ByteArray} {p : ByteArray} (h : Lies w0 R t cs) (hts : t.size ≤ 900000) (hp : PathOf ks p) (hpz : p.size ≤ 100000) (n : Int) (hn : (Lit.int .i64 n).wf = true) (w : World) (hw : Below w0.heap.size w0 w) (m : Int) (hm : w.cell? ⟨0, 0, none⟩ = some (.int .i64 m)) (h0 : 0 < w.heap.size) :
    Calls Tryz.prog 10 #[.agg cs, .string (p ++ ⟨#[61]⟩ ++ ⟨(Lib.itoa n).toArray⟩)] w (SetIn w (overC (T.over t (pathU ks (intT n))))) := by
  have hwf := (Lit.wf_int_iff _ _).1 hn
  have e1 : IntKind.i64.min = -9223372036854775808 := by decide
  have e2 : IntKind.i64.max = 9223372036854775807 := by decide
  rw [e1, e2] at hwf
  have NI := numeral_itoa hwf.1 hwf.2
  have hz := NI.size
  have := vSet_any h hts w hw (p ++ ⟨#[61]⟩ ++ ⟨(Lib.itoa n).toArray⟩) p ⟨(Lib.itoa n).toArray⟩ true (by rw [ByteArray.size_append, ByteArray.size_append, show (⟨#[61]⟩ : ByteArray).size = 1 from rfl]; omega) (hp.cut _) m hm h0
    2 false n ⟨#[]⟩ 0 (by decide) hn (by decide) (by omega) (fun _ w1 _ => vWord_bare _ (numeral_bare NI) 2 false n ⟨#[]⟩ 0 w1 (fun w2 _ => cParse_int _ (by omega) NI.named NI.number n NI.parse w2))
  rw [hp.setR] at this
  exact this
theorem set_nil {w0 : World} {R : Nat → Prop} {t : T} {cs : Array Value} {ks : List ByteArray} {p : ByteArray} (h : Lies w0 R t cs) (hts : t.size ≤ 900000) (hp : PathOf ks p) (hpz : p.size ≤ 100000) (w : World) (hw : Below w0.heap.size w0 w) (m : Int) (hm : w.cell? ⟨0, 0, none⟩ = some (.int .i64 m)) (h0 : 0 < w.heap.size) :
    Calls Tryz.prog 10 #[.agg cs, .string (p ++ ⟨#[61, 110, 117, 108, 108]⟩)] w (SetIn w (overC (T.over t (pathU ks T.nil)))) := by
  have he : p ++ ⟨#[61, 110, 117, 108, 108]⟩ = p ++ ⟨#[61]⟩ ++ ⟨#[110, 117, 108, 108]⟩ := by rw [ByteArray.append_assoc]; rfl
  rw [he]
  have := vSet_any h hts w hw (p ++ ⟨#[61]⟩ ++ ⟨#[110, 117, 108, 108]⟩) p ⟨#[110, 117, 108, 108]⟩ true (by rw [ByteArray.size_append, ByteArray.size_append, show (⟨#[61]⟩ : ByteArray).size = 1 from rfl, show (⟨#[110, 117, 108, 108]⟩ : ByteArray).size = 4 from rfl]; omega) (hp.cut _) m hm h0
    0 false 0 ⟨#[]⟩ 0 (by decide) (by decide) (by decide) (by omega) (fun _ w1 _ => vWord_bare _ (by kernel_rfl) 0 false 0 ⟨#[]⟩ 0 w1 (fun w2 _ => cParse_null w2))
  rw [show (T.mk 0 false 0 ⟨#[]⟩ [] []) = T.nil from rfl, hp.setR] at this
  exact this

/-- What is known of the three values. -/
theorem set_first {t : T} {ks : List ByteArray} {n : Int} (ht : t.parts = 0) (hd : t.depth ≤ 8) (hk : ∀ k ∈ ks, wordL k.data.toList = true) (hl : ks.length ≤ 6) (o : T) (ho : o = T.over t (pathU ks (intT n))) :
    o = putL ks t (intT n) ∧ o.parts = 0 ∧ o.depth ≤ 8 ∧ overC o = (if 4096 < o.size then (T.nil, 6) else (o, 0)) := by
  have hi : ∀ t, T.over t (intT n) = intT n := fun t => over_other t _ _ _ _ _ (by decide)
  have hip : (intT n).parts = 0 := by
    rw [intT, T.parts_mk]
    have h1 : kindBad 2 false n (⟨#[]⟩ : ByteArray).toList.isEmpty ([] : List T).length ([] : List (ByteArray × T)).length = false := by unfold kindBad; simp [Lib.toList_data]
    rw [if_neg (by rw [h1]; simp), if_neg (by rw [show textB ⟨#[]⟩ = true from by kernel_rfl]; simp), if_neg (by simp [firstNZ])]
    rfl
  have h1 : o = putL ks t (intT n) := by rw [ho]; exact over_path hi (by show (2 : Int) ≠ 0; omega) ks t ht
  have h2 : o.parts = 0 := by rw [h1]; exact putL_parts hip ks t (fun k h => word_key (hk k h)) ht
  have hid : (intT n).depth = 1 := by rw [intT, T.depth_mk]; rfl
  have h3 : o.depth ≤ 8 := by rw [h1]; exact putL_depth ks t 8 hd (by omega)
  refine ⟨h1, h2, h3, ?_⟩
  have hck : o.check = if 4096 < o.size then 6 else 0 := by rw [T.check, if_neg (by omega), h2]
  rw [overC, hck]
  by_cases h : 4096 < o.size
  · rw [if_pos h, if_pos h, if_neg (by omega)]
  · rw [if_neg h, if_neg h, if_pos rfl]
theorem set_second {t o : T} {ks : List ByteArray} {a b : Int} (h1 : o = putL ks t (intT a)) (h2 : o.parts = 0) (h3 : o.depth ≤ 8) (h4 : o.size ≤ 4096) (hk : ∀ k ∈ ks, wordL k.data.toList = true) (hl : ks.length ≤ 6) :
    ∃ y, overC (T.over o (pathU ks (intT b))) = (y, 0) ∧ getQ ks y = some (intT b) := by
  obtain ⟨y, hy⟩ : ∃ y, y = T.over o (pathU ks (intT b)) := ⟨_, rfl⟩
  obtain ⟨e1, e2, e3, e4⟩ := set_first h2 h3 hk hl y hy
  rw [← hy]
  have ha : atL ks o = some (intT a) := by rw [h1]; exact at_putL ks t _
  have hz := putL_at_size (x := intT b) ks o (intT a) h2 ha
  have ia : (intT a).size = 1 := by rw [intT, T.size_mk]; rfl
  have ib : (intT b).size = 1 := by rw [intT, T.size_mk]; rfl
  rw [← e1] at hz
  refine ⟨y, ?_, ?_⟩
  · rw [e4, if_neg (by omega)]
  · rw [e1]; exact getQ_putL ks o _
theorem set_third {t o : T} {ks : List ByteArray} {a : Int} (h1 : o = putL ks t (intT a)) (h2 : o.parts = 0) (h3 : o.depth ≤ 8) (h4 : o.size ≤ 4096) (hk : ∀ k ∈ ks, wordL k.data.toList = true) (hl : ks.length ≤ 6) (hne : ks ≠ []) :
    ∃ z, overC (T.over o (pathU ks T.nil)) = (z, 0) ∧ getQ ks z = none := by
  have ha : atL ks o = some (intT a) := by rw [h1]; exact at_putL ks t _
  have e1 := over_gone ks o hne h2
  have hz := goneL_size ks o (intT a) h2 ha
  have hd := goneL_depth ks o 8 h3 (by omega)
  have hp := goneL_parts ks o (fun k h => word_key (hk k h)) h2
  refine ⟨goneL ks o, ?_, getQ_goneL ks o hne h2⟩
  have hck : (goneL ks o).check = 0 := by rw [T.check, if_neg (by omega), if_neg (by omega), hp]
  rw [e1, overC, if_pos hck]

end Go.Proofs.YtlniokpekcoodaaGreatDoor
