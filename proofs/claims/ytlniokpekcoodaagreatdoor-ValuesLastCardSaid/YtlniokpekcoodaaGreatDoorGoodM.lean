/-
  What follows of a value that may be; two of these that compare as 0 are one.
-/
import Derived.Test.YtlniokpekcoodaaGreatDoorRightM
import Derived.Test.YtlniokpekcoodaaGreatDoorOverZM
import Derived.Test.YtlniokpekcoodaaGreatDoorPathCM
set_option linter.unusedVariables false
set_option linter.unusedSimpArgs false
namespace Go.Proofs.YtlniokpekcoodaaGreatDoor
open Go.RowKit

theorem firstNZ_all : ∀ (l : List Int), firstNZ l = 0 → ∀ x ∈ l, x = 0
  | [], _, _, h => by cases h
  | y :: r, h, x, hx => by
    by_cases hy : y = 0
    · rw [firstNZ, if_pos hy] at h
      rcases List.mem_cons.1 hx with rfl | hx
      · exact hy
      · exact firstNZ_all r h x hx
    · rw [firstNZ, if_neg hy] at h
      exact absurd h hy

theorem pcode_zero {m : List (ByteArray × T)} {i : Nat} (hi : i < m.length) (h : pcode m i = 0) : keyB m[i].1 = true ∧ (∀ h0 : 0 < i, leS m[i].1 (m[i - 1]'(by omega)).1 = false) ∧ m[i].2.parts = 0 := by
  cases hk : keyB m[i].1 with
  | false => rw [pcode_key m i hi hk] at h; omega
  | true =>
    by_cases hp : ∀ h0 : 0 < i, leS m[i].1 (m[i - 1]'(by omega)).1 = false
    · rw [pcode_in m i hi hk hp] at h
      exact ⟨rfl, hp, h⟩
    · obtain ⟨h0, h1⟩ := Classical.not_forall.1 hp
      rw [pcode_twice m i hi hk h0 (by simpa using h1)] at h
      omega

/-- A value that may be, part by part. -/
structure PartsOk (k : Int) (b : Bool) (n : Int) (s : ByteArray) (l : List T) (m : List (ByteArray × T)) : Prop where
  kind : kindBad k b n s.toList.isEmpty l.length m.length = false
  text : textB s = true
  list : ∀ x ∈ l, x.parts = 0
  keys : ∀ i (hi : i < m.length), keyB m[i].1 = true
  rise : ∀ i (hi : i < m.length) (h0 : 0 < i), leS m[i].1 (m[i - 1]'(by omega)).1 = false
  map : ∀ q ∈ m, q.2.parts = 0

theorem parts_zero {k : Int} {b : Bool} {n : Int} {s : ByteArray} {l : List T} {m : List (ByteArray × T)} (h : (T.mk k b n s l m).parts = 0) : PartsOk k b n s l m := by
  cases hk : kindBad k b n s.toList.isEmpty l.length m.length with
  | true => rw [parts_kind hk] at h; omega
  | false =>
    cases ht : textB s with
    | false => rw [parts_text hk ht] at h; omega
    | true =>
      have hl : ∀ x ∈ l, x.parts = 0 := by
        rw [T.parts_mk, if_neg (by simp [hk]), if_neg (by simp [ht])] at h
        by_cases hz : firstNZ (l.map T.parts) = 0
        · exact fun x hx => firstNZ_all _ hz _ (List.mem_map.2 ⟨x, hx, rfl⟩)
        · rw [if_pos hz] at h
          exact absurd h hz
      have hm : ∀ i, i < m.length → pcode m i = 0 := fun i hi => by
        rw [T.parts_mk, if_neg (by simp [hk]), if_neg (by simp [ht]), if_neg (by
          rw [Classical.not_not]
          exact firstNZ_zero _ fun x hx => by obtain ⟨y, hy, rfl⟩ := List.mem_map.1 hx; exact hl y hy)] at h
        unfold partsP at h
        exact firstNZ_all _ h _ (List.mem_map.2 ⟨i, by simpa using hi, rfl⟩)
      refine ⟨hk, ht, hl, fun i hi => (pcode_zero hi (hm i hi)).1, fun i hi h0 => (pcode_zero hi (hm i hi)).2.1 h0, fun q hq => ?_⟩
      obtain ⟨i, hi, rfl⟩ := List.getElem_of_mem hq
      exact (pcode_zero hi (hm i hi)).2.2

theorem empty_of_isEmpty {s : ByteArray} (h : s.toList.isEmpty = true) : s = ⟨#[]⟩ := by
  apply toList_inj
  rw [List.isEmpty_iff] at h
  rw [h, ByteArray.toList_eq]

/-- By the kind: what isn't of that kind is empty. -/
theorem kind_parts {k : Int} {b : Bool} {n : Int} {s : ByteArray} {l : List T} {m : List (ByteArray × T)} (h : kindBad k b n s.toList.isEmpty l.length m.length = false) :
    0 ≤ k ∧ k ≤ 5 ∧ (k ≠ 1 → b = false) ∧ (k ≠ 2 → n = 0) ∧ (k ≠ 3 → s = ⟨#[]⟩) ∧ (k ≠ 4 → l = []) ∧ (k ≠ 5 → m = []) := by
  unfold kindBad at h
  simp only [Bool.or_eq_false_iff, Bool.and_eq_false_iff, Bool.not_eq_false', decide_eq_false_iff_not, decide_eq_true_eq, Bool.not_eq_true'] at h
  obtain ⟨⟨⟨⟨⟨⟨h0, h5⟩, hb⟩, hn⟩, hs⟩, hl⟩, hm⟩ := h
  refine ⟨by omega, by omega, fun q => ?_, fun q => ?_, fun q => ?_, fun q => ?_, fun q => ?_⟩
  · rcases hb with hb | hb
    · exact absurd hb q
    · exact hb
  · rcases hn with hn | hn
    · exact absurd hn q
    · exact hn
  · rcases hs with hs | hs
    · exact absurd hs q
    · exact empty_of_isEmpty hs
  · rcases hl with hl | hl
    · exact absurd hl q
    · exact List.eq_nil_of_length_eq_zero (by omega)
  · rcases hm with hm | hm
    · exact absurd hm q
    · exact List.eq_nil_of_length_eq_zero (by omega)

theorem cmpG_zero_mem {α : Type} {f : α → α → Int} : ∀ xs ys : List α, (∀ x ∈ xs, ∀ y ∈ ys, f x y = 0 → x = y) → cmpG f xs ys = 0 → xs = ys
  | [], [], _, _ => rfl
  | [], _ :: _, _, h => by rw [cmpG] at h; omega
  | _ :: _, [], _, h => by rw [cmpG] at h; omega
  | x :: r, y :: q, hf, h => by
    by_cases hz : f x y = 0
    · rw [cmpG, if_neg (by simp [hz])] at h
      rw [hf x (by simp) y (by simp) hz, cmpG_zero_mem r q (fun a ha b hb => hf a (by simp [ha]) b (by simp [hb])) h]
    · rw [cmpG, if_pos hz] at h
      exact absurd h hz

theorem cmpB_zero {a b : Bool} (h : cmpB a b = 0) : a = b := by
  revert h
  cases a <;> cases b <;> decide

/-- Two values that may be compare as 0 only if they are one. -/
theorem eq_of_cmp (t : T) : t.parts = 0 → ∀ u : T, u.parts = 0 → T.cmp t u = 0 → t = u := by
  induction t using T.ind with
  | h k b n s l m ihl ihm =>
    intro ht u hu hc
    obtain ⟨k', b', n', s', l', m'⟩ := u
    have P := parts_zero ht
    have P' := parts_zero hu
    rw [T.cmp_mk] at hc
    by_cases hk : k = k'
    · rw [if_neg (by simp [hk])] at hc
      subst hk
      obtain ⟨k0, k5, eb, en, es, el, em⟩ := kind_parts P.kind
      obtain ⟨_, _, eb', en', es', el', em'⟩ := kind_parts P'.kind
      have hb : b = b' := by
        by_cases q : k = 1
        · rw [if_pos q] at hc; exact cmpB_zero hc
        · rw [eb q, eb' q]
      have hn : n = n' := by
        by_cases q : k = 2
        · rw [if_neg (by omega), if_pos q] at hc; exact cmpI_zero hc
        · rw [en q, en' q]
      have hs : s = s' := by
        by_cases q : k = 3
        · rw [if_neg (by omega), if_neg (by omega), if_pos q] at hc; exact cmpS_zero hc
        · rw [es q, es' q]
      have hl : l = l' := by
        by_cases q : k = 4
        · rw [if_neg (by omega), if_neg (by omega), if_neg (by omega), if_pos q, cmpL_G] at hc
          exact cmpG_zero_mem l l' (fun x hx y hy h => ihl x hx (P.list x hx) y (P'.list y hy) h) hc
        · rw [el q, el' q]
      have hm : m = m' := by
        by_cases q : k = 5
        · rw [if_neg (by omega), if_neg (by omega), if_neg (by omega), if_neg (by omega), if_pos q, cmpM_G] at hc
          refine cmpG_zero_mem m m' (fun x hx y hy h => ?_) hc
          unfold cmpP at h
          by_cases e : x.1 = y.1
          · rw [if_neg (by simp [e])] at h
            exact Prod.ext e (ihm x hx (P.map x hx) y.2 (P'.map y hy) h)
          · rw [if_pos e] at h
            exact absurd (cmpS_zero h) e
        · rw [em q, em' q]
      rw [hb, hn, hs, hl, hm]
    · rw [if_pos hk] at hc
      exact absurd (cmpI_zero hc) hk

theorem good_parts {t : T} (h : t.good = true) : t.parts = 0 := by
  unfold T.good at h
  simp only [Bool.and_eq_true, decide_eq_true_eq] at h
  have h2 := h.2
  unfold T.check at h2
  by_cases hd : 16 < t.depth
  · rw [if_pos hd] at h2; omega
  · by_cases hz : 4096 < t.size
    · rw [if_neg hd, if_pos hz] at h2; omega
    · rw [if_neg hd, if_neg hz] at h2; exact h2

/-- Are two trees one? -/
noncomputable def T.same (t u : T) : Bool := @decide (t = u) (Classical.propDecidable _)
theorem T.same_of_eq {t u : T} (h : t = u) : T.same t u = true := @decide_eq_true _ (Classical.propDecidable _) h
theorem T.same_of_ne {t u : T} (h : t ≠ u) : T.same t u = false := @decide_eq_false _ (Classical.propDecidable _) h
theorem T.same_self (t : T) : T.same t t = true := T.same_of_eq rfl
theorem good_same {t u : T} (h : t.good = true) (h2 : u.good = true) : (T.cmp t u == 0) = T.same t u := by
  by_cases e : t = u
  · rw [T.same_of_eq e, e, (T.ord u).refl]; rfl
  · rw [T.same_of_ne e]
    have : T.cmp t u ≠ 0 := fun hc => e (eq_of_cmp t (good_parts h) u (good_parts h2) hc)
    simp [this]

end Go.Proofs.YtlniokpekcoodaaGreatDoor

/-
  What is laid over others, where the keys rise: what stands under a key.
-/
set_option linter.unusedVariables false
set_option linter.unusedSimpArgs false
namespace Go.Proofs.YtlniokpekcoodaaGreatDoor
open Go.RowKit

theorem bl_cons (x y : UInt8) (r q : List UInt8) : Op.bytesLess (x :: r) (y :: q) = true ↔ x.toNat < y.toNat ∨ (x.toNat = y.toNat ∧ Op.bytesLess r q = true) := by
  rw [Op.bytesLess]
  simp only [Bool.or_eq_true, Bool.and_eq_true, decide_eq_true_eq, beq_iff_eq, UInt8.lt_iff_toNat_lt, ← UInt8.toNat_inj]
theorem bl_trans : ∀ a b c : List UInt8, Op.bytesLess a b = true → Op.bytesLess b c = true → Op.bytesLess a c = true
  | _, [], _, h, _ => by rw [Op.bytesLess] at h; cases h
  | _, _ :: _, [], _, h => by rw [Op.bytesLess] at h; cases h
  | [], _ :: _, _ :: _, _, _ => by rw [Op.bytesLess]
  | x :: r, y :: q, z :: p, h1, h2 => by
    rw [bl_cons] at h1 h2 ⊢
    rcases h1 with h1 | ⟨h1, h1'⟩ <;> rcases h2 with h2 | ⟨h2, h2'⟩
    · left; omega
    · left; omega
    · left; omega
    · right; exact ⟨by omega, bl_trans r q p h1' h2'⟩
theorem bl_total : ∀ a b : List UInt8, Op.bytesLess a b = false → a ≠ b → Op.bytesLess b a = true
  | [], [], _, h => absurd rfl h
  | [], _ :: _, h, _ => by rw [Op.bytesLess] at h; cases h
  | _ :: _, [], _, _ => by rw [Op.bytesLess]
  | x :: r, y :: q, h, hn => by
    have h' : ¬ Op.bytesLess (x :: r) (y :: q) = true := by simp [h]
    rw [bl_cons] at h'
    rw [bl_cons]
    by_cases e : x.toNat = y.toNat
    · right
      refine ⟨e.symm, bl_total r q ?_ ?_⟩
      · cases hh : Op.bytesLess r q with
        | false => rfl
        | true => exact absurd (.inr ⟨e, hh⟩) h'
      · intro e2; exact hn (by rw [e2, UInt8.toNat_inj.1 e])
    · left; omega
theorem ltS_trans {a b c : ByteArray} (h : ltS a b = true) (h2 : ltS b c = true) : ltS a c = true := bl_trans _ _ _ h h2
theorem ltS_total {a b : ByteArray} (h : ltS a b = false) (hn : a ≠ b) : ltS b a = true := bl_total _ _ h fun e => hn (toList_inj e)
theorem ltS_asym {a b : ByteArray} (h : ltS a b = true) : ltS b a = false := by
  cases h2 : ltS b a with
  | false => rfl
  | true => have := ltS_trans h h2; rw [ltS_irr] at this; cases this
theorem ltS_nee {a b : ByteArray} (h : ltS a b = true) : a ≠ b := ltS_ne h bytesLess_irr

/-- The keys rise. -/
def Asc (ps : Prs) : Prop := ps.Pairwise fun p q => ltS p.1 q.1 = true

theorem asc_of_rise : ∀ (m : Prs), (∀ i (hi : i < m.length) (h0 : 0 < i), leS m[i].1 (m[i - 1]'(by omega)).1 = false) → Asc m := by
  intro m h
  have step : ∀ i (hi : i + 1 < m.length), ltS (m[i]'(by omega)).1 m[i + 1].1 = true := fun i hi => by
    have := h (i + 1) hi (by omega)
    rcases les_cases m[i + 1].1 (m[i + 1 - 1]'(by omega)).1 with ⟨h1, _⟩ | ⟨h1, _⟩ | ⟨_, h2, h3⟩
    · rw [h1] at this; cases this
    · rw [h1] at this; cases this
    · exact ltS_total h2 fun e => by rw [e] at h3; simp at h3
  unfold Asc
  rw [List.pairwise_iff_getElem]
  intro i j hi hj hij
  obtain ⟨d, rfl⟩ : ∃ d, j = i + 1 + d := ⟨j - (i + 1), by omega⟩
  clear hij
  induction d with
  | zero => exact step i (by omega)
  | succ d ih =>
    have h1 := ih (by omega)
    have h2 := step (i + 1 + d) (by omega)
    exact ltS_trans h1 h2

theorem Asc.head {p : ByteArray × T} {r : Prs} (h : Asc (p :: r)) : ∀ q ∈ r, ltS p.1 q.1 = true := (List.pairwise_cons.1 h).1
theorem Asc.tail {p : ByteArray × T} {r : Prs} (h : Asc (p :: r)) : Asc r := (List.pairwise_cons.1 h).2

theorem findR_none {key : ByteArray} {ps : Prs} (h : ∀ q ∈ ps, q.1 ≠ key) : findR key ps = none := by
  unfold findR
  rw [List.find?_eq_none.2 fun q hq => by simpa using h q hq]
  rfl
theorem findR_append (key : ByteArray) : ∀ xs ys : Prs, findR key (xs ++ ys) = match findR key xs with | some x => some x | none => findR key ys
  | [], ys => rfl
  | p :: r, ys => by
    by_cases h : p.1 = key
    · rw [List.cons_append, findR_here h, findR_here h]
    · rw [List.cons_append, findR_skip h, findR_skip h, findR_append key r ys]

theorem cutB_lt {key : ByteArray} : ∀ {ps : Prs} {q : ByteArray × T}, q ∈ cutB key ps → ltS q.1 key = true
  | [], q, h => by cases h
  | p :: r, q, h => by
    rw [cutB] at h
    split at h
    · rename_i hl
      rcases List.mem_cons.1 h with rfl | h
      · exact hl
      · exact cutB_lt h
    · cases h
theorem cutA_gt {key : ByteArray} : ∀ {ps : Prs} (ha : Asc ps) {q : ByteArray × T}, q ∈ cutA key ps → ltS key q.1 = true
  | [], _, q, h => by cases h
  | p :: r, ha, q, h => by
    rw [cutA] at h
    split at h
    · exact cutA_gt ha.tail h
    · rename_i hl
      have hl' : ltS p.1 key = false := by simpa using hl
      split at h
      · rename_i e
        rw [← e]; exact ha.head q h
      · rename_i e
        have hk := ltS_total hl' e
        rcases List.mem_cons.1 h with rfl | h
        · exact hk
        · exact ltS_trans hk (ha.head q h)
theorem cutA_asc {key : ByteArray} : ∀ {ps : Prs}, Asc ps → Asc (cutA key ps)
  | [], h => h
  | p :: r, h => by
    rw [cutA]
    split
    · exact cutA_asc h.tail
    · split
      · exact h.tail
      · exact h
theorem cutB_find {key k : ByteArray} (hk : ltS k key = true) : ∀ {ps : Prs}, Asc ps → findR k (cutB key ps) = findR k ps
  | [], _ => rfl
  | p :: r, h => by
    rw [cutB]
    split
    · by_cases e : p.1 = k
      · rw [findR_here e, findR_here e]
      · rw [findR_skip e, findR_skip e, cutB_find hk h.tail]
    · rename_i hl
      have hl' : ltS p.1 key = false := by simpa using hl
      rw [findR_none (ps := []) (fun q hq => by cases hq), findR_none]
      intro q hq e
      rcases List.mem_cons.1 hq with rfl | hq
      · rw [e, hk] at hl'; cases hl'
      · have := ltS_trans (h.head q hq) (by rw [e]; exact hk)
        rw [this] at hl'; cases hl'
theorem cutA_find {key k : ByteArray} (hk : ltS key k = true) : ∀ {ps : Prs}, Asc ps → findR k (cutA key ps) = findR k ps
  | [], _ => rfl
  | p :: r, h => by
    rw [cutA]
    split
    · rename_i hl
      rw [cutA_find hk h.tail, findR_skip (ltS_nee (ltS_trans hl hk))]
    · split
      · rename_i e
        rw [findR_skip (by rw [e]; exact ltS_nee hk)]
      · rfl
theorem cutH_find {key : ByteArray} : ∀ {ps : Prs}, Asc ps → cutH key ps = (findR key ps).getD T.nil
  | [], _ => rfl
  | p :: r, h => by
    rw [cutH]
    split
    · rename_i hl
      rw [findR_skip (ltS_nee hl), cutH_find h.tail]
    · rename_i hl
      have hl' : ltS p.1 key = false := by simpa using hl
      split
      · rename_i e; rw [findR_here e]; rfl
      · rename_i e
        have hk := ltS_total hl' e
        rw [findR_none]
        · rfl
        · intro q hq e2
          rcases List.mem_cons.1 hq with rfl | hq
          · exact e e2
          · exact ltS_nee (ltS_trans hk (h.head q hq)) e2.symm

/-- What stands under a key of what is laid over. -/
def overAt (was : Option T) : Option T → Option T
  | none => was
  | some x => if x.kind = 0 then none else some (T.over (was.getD T.nil) x)

theorem overR_find (key : ByteArray) : ∀ (m rest : Prs), Asc m → Asc rest → findR key (overR rest m) = overAt (findR key rest) (findR key m)
  | [], rest, _, _ => by rw [overR_nil]; rfl
  | p :: ps, rest, hm, hr => by
    have ih := overR_find key ps (cutA p.1 rest) hm.tail (cutA_asc hr)
    rw [overR_cons, findR_append, findR_append]
    by_cases e : p.1 = key
    · subst e
      rw [findR_none (ps := cutB p.1 rest) fun q hq => ltS_nee (cutB_lt hq), findR_here (p := p) rfl]
      have n1 : findR p.1 ps = none := findR_none fun q hq e => ltS_nee (hm.head q hq) e.symm
      have n2 : findR p.1 (cutA p.1 rest) = none := findR_none fun q hq e => ltS_nee (cutA_gt hr hq) e.symm
      by_cases h0 : p.2.kind = 0
      · rw [if_pos h0]
        show findR p.1 (overR (cutA p.1 rest) ps) = _
        rw [ih, n1, n2, overAt, overAt, if_pos h0]
      · rw [if_neg h0, show findR p.1 [(p.1, T.over (cutH p.1 rest) p.2)] = some (T.over (cutH p.1 rest) p.2) from findR_here (p := (p.1, T.over (cutH p.1 rest) p.2)) rfl, overAt, if_neg h0, cutH_find hr]
    · have mid : findR key (if p.2.kind = 0 then [] else [(p.1, T.over (cutH p.1 rest) p.2)]) = none := by
        refine findR_none fun q hq => ?_
        split at hq
        · cases hq
        · obtain rfl : q = (p.1, T.over (cutH p.1 rest) p.2) := by simpa using hq
          exact e
      rw [mid, findR_skip e]
      cases hl : ltS p.1 key with
      | true =>
        rw [findR_none (ps := cutB p.1 rest) fun q hq e2 => by
          have := cutB_lt hq
          rw [e2, ltS_asym hl] at this; cases this]
        show findR key (overR (cutA p.1 rest) ps) = _
        rw [ih, cutA_find hl hr]
      | false =>
        have hk := ltS_total hl e
        have n1 : findR key ps = none := findR_none fun q hq e2 => by
          have := ltS_trans hk (hm.head q hq)
          rw [e2, ltS_irr] at this; cases this
        have n2 : findR key (cutA p.1 rest) = none := findR_none fun q hq e2 => by
          have := ltS_trans hk (cutA_gt hr hq)
          rw [e2, ltS_irr] at this; cases this
        rw [cutB_find hk hr, n1]
        cases hf : findR key rest with
        | some x => rfl
        | none =>
          show findR key (overR (cutA p.1 rest) ps) = _
          rw [ih, n1, n2]

end Go.Proofs.YtlniokpekcoodaaGreatDoor
