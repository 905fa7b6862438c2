/-
  What is laid over others, where the keys rise: what stands under a key.
-/
import Derived.Test.YtfhonjjhladddaaOverP
import Derived.Test.YtfhonjjhladddaaGood
set_option linter.unusedVariables false
set_option linter.unusedSimpArgs false
namespace Go.Proofs.Ytfhonjjhladddaa
open Go.RowKit

theorem bl_cons (x y : UInt8) (r q : List UInt8) : Op.bytesLess (x :: r) (y :: q) = true ↔ x.toNat < y.toNat ∨ (x.toNat = y.toNat ∧ Op.bytesLess r q = true) := by
  rw [Op.bytesLess]
  simp only [Bool.or_eq_true, Bool.and_eq_true, decide_eq_true_eq, beq_iff_eq, UInt8.lt_iff_toNat_lt, ← UInt8.toNat_inj]
theorem bl_trans : ∀ a b c : List UInt8, Op.bytesLess a b = true → Op.bytesLess b c = true → Op.bytesLess a c = true
  | _, [], _, h, _ => by rw [Op.bytesLess] at h; cases h
  | _, _ :: _, [], _, h => by rw [Op.bytesLess] at h; cases h
  | [], _ :: _, _ :: _, _, _ => by rw [Op.bytesLess]
  | x :: r, y :: q, z :: p, h1, h2 => by
    rw [bl_cons] at h1 h2 ⊢
    rcases h1 with h1 | ⟨h1, h1'⟩ <;> rcases h2 with h2 | ⟨h2, h2'⟩
    · left; omega
    · left; omega
    · left; omega
    · right; exact ⟨by omega, bl_trans r q p h1' h2'⟩
theorem bl_total : ∀ a b : List UInt8, Op.bytesLess a b = false → a ≠ b → Op.bytesLess b a = true
  | [], [], _, h => absurd rfl h
  | [], _ :: _, h, _ => by rw [Op.bytesLess] at h; cases h
  | _ :: _, [], _, _ => by rw [Op.bytesLess]
  | x :: r, y :: q, h, hn => by
    have h' : ¬ Op.bytesLess (x :: r) (y :: q) = true := by simp [h]
    rw [bl_cons] at h'
    rw [bl_cons]
    by_cases e : x.toNat = y.toNat
    · right
      refine ⟨e.symm, bl_total r q ?_ ?_⟩
      · cases hh : Op.bytesLess r q with
        | false => rfl
        | true => exact absurd (.inr ⟨e, hh⟩) h'
      · intro e2; exact hn (by rw [e2, UInt8.toNat_inj.1 e])
    · left; omega
theorem ltS_trans {a b c : ByteArray} (h : ltS a b = true) (h2 : ltS b c = true) : ltS a c = true := bl_trans _ _ _ h h2
theorem ltS_total {a b : ByteArray} (h : ltS a b = false) (hn : a ≠ b) : ltS b a = true := bl_total _ _ h fun e => hn (toList_inj e)
theorem ltS_asym {a b : ByteArray} (h : ltS a b = true) : ltS b a = false := by
  cases h2 : ltS b a with
  | false => rfl
  | true => have := ltS_trans h h2; rw [ltS_irr] at this; cases this
theorem ltS_nee {a b : ByteArray} (h : ltS a b = true) : a ≠ b := ltS_ne h bytesLess_irr

/-- The keys rise. -/
def Asc (ps : Prs) : Prop := ps.Pairwise fun p q => ltS p.1 q.1 = true

theorem asc_of_rise : ∀ (m : Prs), (∀ i (hi : i < m.length) (h0 : 0 < i), leS m[i].1 (m[i - 1]'(by omega)).1 = false) → Asc m := by
  intro m h
  have step : ∀ i (hi : i + 1 < m.length), ltS (m[i]'(by omega)).1 m[i + 1].1 = true := fun i hi => by
    have := h (i + 1) hi (by omega)
    rcases les_cases m[i + 1].1 (m[i + 1 - 1]'(by omega)).1 with ⟨h1, _⟩ | ⟨h1, _⟩ | ⟨_, h2, h3⟩
    · rw [h1] at this; cases this
    · rw [h1] at this; cases this
    · exact ltS_total h2 fun e => by rw [e] at h3; simp at h3
  unfold Asc
  rw [List.pairwise_iff_getElem]
  intro i j hi hj hij
  obtain ⟨d, rfl⟩ : ∃ d, j = i + 1 + d := ⟨j - (i + 1), by omega⟩
  clear hij
  induction d with
  | zero => exact step i (by omega)
  | succ d ih =>
    have h1 := ih (by omega)
    have h2 := step (i + 1 + d) (by omega)
    exact ltS_trans h1 h2

theorem Asc.head {p : ByteArray × T} {r : Prs} (h : Asc (p :: r)) : ∀ q ∈ r, ltS p.1 q.1 = true := (List.pairwise_cons.1 h).1
theorem Asc.tail {p : ByteArray × T} {r : Prs} (h : Asc (p :: r)) : Asc r := (List.pairwise_cons.1 h).2

theorem findR_none {key : ByteArray} {ps : Prs} (h : ∀ q ∈ ps, q.1 ≠ key) : findR key ps = none := by
  unfold findR
  rw [List.find?_eq_none.2 fun q hq => by simpa using h q hq]
  rfl
theorem findR_append (key : ByteArray) : ∀ xs ys : Prs, findR key (xs ++ ys) = match findR key xs with | some x => some x | none => findR key ys
  | [], ys => rfl
  | p :: r, ys => by
    by_cases h : p.1 = key
    · rw [List.cons_append, findR_here h, findR_here h]
    · rw [List.cons_append, findR_skip h, findR_skip h, findR_append key r ys]

theorem cutB_lt {key : ByteArray} : ∀ {ps : Prs} {q : ByteArray × T}, q ∈ cutB key ps → ltS q.1 key = true
  | [], q, h => by cases h
  | p :: r, q, h => by
    rw [cutB] at h
    split at h
    · rename_i hl
      rcases List.mem_cons.1 h with rfl | h
      · exact hl
      · exact cutB_lt h
    · cases h
theorem cutA_gt {key : ByteArray} : ∀ {ps : Prs} (ha : Asc ps) {q : ByteArray × T}, q ∈ cutA key ps → ltS key q.1 = true
  | [], _, q, h => by cases h
  | p :: r, ha, q, h => by
    rw [cutA] at h
    split at h
    · exact cutA_gt ha.tail h
    · rename_i hl
      have hl' : ltS p.1 key = false := by simpa using hl
      split at h
      · rename_i e
        rw [← e]; exact ha.head q h
      · rename_i e
        have hk := ltS_total hl' e
        rcases List.mem_cons.1 h with rfl | h
        · exact hk
        · exact ltS_trans hk (ha.head q h)
theorem cutA_asc {key : ByteArray} : ∀ {ps : Prs}, Asc ps → Asc (cutA key ps)
  | [], h => h
  | p :: r, h => by
    rw [cutA]
    split
    · exact cutA_asc h.tail
    · split
      · exact h.tail
      · exact h
theorem cutB_find {key k : ByteArray} (hk : ltS k key = true) : ∀ {ps : Prs}, Asc ps → findR k (cutB key ps) = findR k ps
  | [], _ => rfl
  | p :: r, h => by
    rw [cutB]
    split
    · by_cases e : p.1 = k
      · rw [findR_here e, findR_here e]
      · rw [findR_skip e, findR_skip e, cutB_find hk h.tail]
    · rename_i hl
      have hl' : ltS p.1 key = false := by simpa using hl
      rw [findR_none (ps := []) (fun q hq => by cases hq), findR_none]
      intro q hq e
      rcases List.mem_cons.1 hq with rfl | hq
      · rw [e, hk] at hl'; cases hl'
      · have := ltS_trans (h.head q hq) (by rw [e]; exact hk)
        rw [this] at hl'; cases hl'
theorem cutA_find {key k : ByteArray} (hk : ltS key k = true) : ∀ {ps : Prs}, Asc ps → findR k (cutA key ps) = findR k ps
  | [], _ => rfl
  | p :: r, h => by
    rw [cutA]
    split
    · rename_i hl
      rw [cutA_find hk h.tail, findR_skip (ltS_nee (ltS_trans hl hk))]
    · split
      · rename_i e
        rw [findR_skip (by rw [e]; exact ltS_nee hk)]
      · rfl
theorem cutH_find {key : ByteArray} : ∀ {ps : Prs}, Asc ps → cutH key ps = (findR key ps).getD T.nil
  | [], _ => rfl
  | p :: r, h => by
    rw [cutH]
    split
    · rename_i hl
      rw [findR_skip (ltS_nee hl), cutH_find h.tail]
    · rename_i hl
      have hl' : ltS p.1 key = false := by simpa using hl
      split
      · rename_i e; rw [findR_here e]; rfl
      · rename_i e
        have hk := ltS_total hl' e
        rw [findR_none]
        · rfl
        · intro q hq e2
          rcases List.mem_cons.1 hq with rfl | hq
          · exact e e2
          · exact ltS_nee (ltS_trans hk (h.head q hq)) e2.symm

/-- What stands under a key of what is laid over. -/
def overAt (was : Option T) : Option T → Option T
  | none => was
  | some x => if x.kind = 0 then none else some (T.over (was.getD T.nil) x)

theorem overR_find (key : ByteArray) : ∀ (m rest : Prs), Asc m → Asc rest → findR key (overR rest m) = overAt (findR key rest) (findR key m)
  | [], rest, _, _ => by rw [overR_nil]; rfl
  | p :: ps, rest, hm, hr => by
    have ih := overR_find key ps (cutA p.1 rest) hm.tail (cutA_asc hr)
    rw [overR_cons, findR_append, findR_append]
    by_cases e : p.1 = key
    · subst e
      rw [findR_none (ps := cutB p.1 rest) fun q hq => ltS_nee (cutB_lt hq), findR_here (p := p) rfl]
      have n1 : findR p.1 ps = none := findR_none fun q hq e => ltS_nee (hm.head q hq) e.symm
      have n2 : findR p.1 (cutA p.1 rest) = none := findR_none fun q hq e => ltS_nee (cutA_gt hr hq) e.symm
      by_cases h0 : p.2.kind = 0
      · rw [if_pos h0]
        show findR p.1 (overR (cutA p.1 rest) ps) = _
        rw [ih, n1, n2, overAt, overAt, if_pos h0]
      · rw [if_neg h0, show findR p.1 [(p.1, T.over (cutH p.1 rest) p.2)] = some (T.over (cutH p.1 rest) p.2) from findR_here (p := (p.1, T.over (cutH p.1 rest) p.2)) rfl, overAt, if_neg h0, cutH_find hr]
    · have mid : findR key (if p.2.kind = 0 then [] else [(p.1, T.over (cutH p.1 rest) p.2)]) = none := by
        refine findR_none fun q hq => ?_
        split at hq
        · cases hq
        · obtain rfl : q = (p.1, T.over (cutH p.1 rest) p.2) := by simpa using hq
          exact e
      rw [mid, findR_skip e]
      cases hl : ltS p.1 key with
      | true =>
        rw [findR_none (ps := cutB p.1 rest) fun q hq e2 => by
          have := cutB_lt hq
          rw [e2, ltS_asym hl] at this; cases this]
        show findR key (overR (cutA p.1 rest) ps) = _
        rw [ih, cutA_find hl hr]
      | false =>
        have hk := ltS_total hl e
        have n1 : findR key ps = none := findR_none fun q hq e2 => by
          have := ltS_trans hk (hm.head q hq)
          rw [e2, ltS_irr] at this; cases this
        have n2 : findR key (cutA p.1 rest) = none := findR_none fun q hq e2 => by
          have := ltS_trans hk (cutA_gt hr hq)
          rw [e2, ltS_irr] at this; cases this
        rw [cutB_find hk hr, n1]
        cases hf : findR key rest with
        | some x => rfl
        | none =>
          show findR key (overR (cutA p.1 rest) ps) = _
          rw [ih, n1, n2]

end Go.Proofs.Ytfhonjjhladddaa
