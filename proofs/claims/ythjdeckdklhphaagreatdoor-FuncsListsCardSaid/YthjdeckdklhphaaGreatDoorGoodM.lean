/-
  What follows of a value that may be; two of these that compare as 0 are one.
-/
import Derived.Test.YthjdeckdklhphaaGreatDoorRight
import Derived.Test.YthjdeckdklhphaaGreatDoorMapNilM
import Derived.Test.YthjdeckdklhphaaGreatDoorCloneP
import Derived.Lib.QuietBelow
import Derived.Test.YthjdeckdklhphaaGreatDoorFnKeysM
set_option linter.unusedVariables false
set_option linter.unusedSimpArgs false
namespace Go.Proofs.YthjdeckdklhphaaGreatDoor
open Go.RowKit

theorem firstNZ_all : ∀ (l : List Int), firstNZ l = 0 → ∀ x ∈ l, x = 0
  | [], _, _, h => by cases h
  | y :: r, h, x, hx => by
    by_cases hy : y = 0
    · rw [firstNZ, if_pos hy] at h
      rcases List.mem_cons.1 hx with rfl | hx
      · exact hy
      · exact firstNZ_all r h x hx
    · rw [firstNZ, if_neg hy] at h
      exact absurd h hy

theorem pcode_zero {m : List (ByteArray × T)} {i : Nat} (hi : i < m.length) (h : pcode m i = 0) : keyB m[i].1 = true ∧ (∀ h0 : 0 < i, leS m[i].1 (m[i - 1]'(by omega)).1 = false) ∧ m[i].2.parts = 0 := by
  cases hk : keyB m[i].1 with
  | false => rw [pcode_key m i hi hk] at h; omega
  | true =>
    by_cases hp : ∀ h0 : 0 < i, leS m[i].1 (m[i - 1]'(by omega)).1 = false
    · rw [pcode_in m i hi hk hp] at h
      exact ⟨rfl, hp, h⟩
    · obtain ⟨h0, h1⟩ := Classical.not_forall.1 hp
      rw [pcode_twice m i hi hk h0 (by simpa using h1)] at h
      omega

/-- A value that may be, part by part. -/
structure PartsOk (k : Int) (b : Bool) (n : Int) (s : ByteArray) (l : List T) (m : List (ByteArray × T)) : Prop where
  kind : kindBad k b n s.toList.isEmpty l.length m.length = false
  text : textB s = true
  list : ∀ x ∈ l, x.parts = 0
  keys : ∀ i (hi : i < m.length), keyB m[i].1 = true
  rise : ∀ i (hi : i < m.length) (h0 : 0 < i), leS m[i].1 (m[i - 1]'(by omega)).1 = false
  map : ∀ q ∈ m, q.2.parts = 0

theorem parts_zero {k : Int} {b : Bool} {n : Int} {s : ByteArray} {l : List T} {m : List (ByteArray × T)} (h : (T.mk k b n s l m).parts = 0) : PartsOk k b n s l m := by
  cases hk : kindBad k b n s.toList.isEmpty l.length m.length with
  | true => rw [parts_kind hk] at h; omega
  | false =>
    cases ht : textB s with
    | false => rw [parts_text hk ht] at h; omega
    | true =>
      have hl : ∀ x ∈ l, x.parts = 0 := by
        rw [T.parts_mk, if_neg (by simp [hk]), if_neg (by simp [ht])] at h
        by_cases hz : firstNZ (l.map T.parts) = 0
        · exact fun x hx => firstNZ_all _ hz _ (List.mem_map.2 ⟨x, hx, rfl⟩)
        · rw [if_pos hz] at h
          exact absurd h hz
      have hm : ∀ i, i < m.length → pcode m i = 0 := fun i hi => by
        rw [T.parts_mk, if_neg (by simp [hk]), if_neg (by simp [ht]), if_neg (by
          rw [Classical.not_not]
          exact firstNZ_zero _ fun x hx => by obtain ⟨y, hy, rfl⟩ := List.mem_map.1 hx; exact hl y hy)] at h
        unfold partsP at h
        exact firstNZ_all _ h _ (List.mem_map.2 ⟨i, by simpa using hi, rfl⟩)
      refine ⟨hk, ht, hl, fun i hi => (pcode_zero hi (hm i hi)).1, fun i hi h0 => (pcode_zero hi (hm i hi)).2.1 h0, fun q hq => ?_⟩
      obtain ⟨i, hi, rfl⟩ := List.getElem_of_mem hq
      exact (pcode_zero hi (hm i hi)).2.2

theorem empty_of_isEmpty {s : ByteArray} (h : s.toList.isEmpty = true) : s = ⟨#[]⟩ := by
  apply toList_inj
  rw [List.isEmpty_iff] at h
  rw [h, ByteArray.toList_eq]

/-- By the kind: what isn't of that kind is empty. -/
theorem kind_parts {k : Int} {b : Bool} {n : Int} {s : ByteArray} {l : List T} {m : List (ByteArray × T)} (h : kindBad k b n s.toList.isEmpty l.length m.length = false) :
    0 ≤ k ∧ k ≤ 5 ∧ (k ≠ 1 → b = false) ∧ (k ≠ 2 → n = 0) ∧ (k ≠ 3 → s = ⟨#[]⟩) ∧ (k ≠ 4 → l = []) ∧ (k ≠ 5 → m = []) := by
  unfold kindBad at h
  simp only [Bool.or_eq_false_iff, Bool.and_eq_false_iff, Bool.not_eq_false', decide_eq_false_iff_not, decide_eq_true_eq, Bool.not_eq_true'] at h
  obtain ⟨⟨⟨⟨⟨⟨h0, h5⟩, hb⟩, hn⟩, hs⟩, hl⟩, hm⟩ := h
  refine ⟨by omega, by omega, fun q => ?_, fun q => ?_, fun q => ?_, fun q => ?_, fun q => ?_⟩
  · rcases hb with hb | hb
    · exact absurd hb q
    · exact hb
  · rcases hn with hn | hn
    · exact absurd hn q
    · exact hn
  · rcases hs with hs | hs
    · exact absurd hs q
    · exact empty_of_isEmpty hs
  · rcases hl with hl | hl
    · exact absurd hl q
    · exact List.eq_nil_of_length_eq_zero (by omega)
  · rcases hm with hm | hm
    · exact absurd hm q
    · exact List.eq_nil_of_length_eq_zero (by omega)

theorem cmpG_zero_mem {α : Type} {f : α → α → Int} : ∀ xs ys : List α, (∀ x ∈ xs, ∀ y ∈ ys, f x y = 0 → x = y) → cmpG f xs ys = 0 → xs = ys
  | [], [], _, _ => rfl
  | [], _ :: _, _, h => by rw [cmpG] at h; omega
  | _ :: _, [], _, h => by rw [cmpG] at h; omega
  | x :: r, y :: q, hf, h => by
    by_cases hz : f x y = 0
    · rw [cmpG, if_neg (by simp [hz])] at h
      rw [hf x (by simp) y (by simp) hz, cmpG_zero_mem r q (fun a ha b hb => hf a (by simp [ha]) b (by simp [hb])) h]
    · rw [cmpG, if_pos hz] at h
      exact absurd h hz

theorem cmpB_zero {a b : Bool} (h : cmpB a b = 0) : a = b := by
  revert h
  cases a <;> cases b <;> decide

/-- Two values that may be compare as 0 only if they are one. -/
theorem eq_of_cmp (t : T) : t.parts = 0 → ∀ u : T, u.parts = 0 → T.cmp t u = 0 → t = u := by
  induction t using T.ind with
  | h k b n s l m ihl ihm =>
    intro ht u hu hc
    obtain ⟨k', b', n', s', l', m'⟩ := u
    have P := parts_zero ht
    have P' := parts_zero hu
    rw [T.cmp_mk] at hc
    by_cases hk : k = k'
    · rw [if_neg (by simp [hk])] at hc
      subst hk
      obtain ⟨k0, k5, eb, en, es, el, em⟩ := kind_parts P.kind
      obtain ⟨_, _, eb', en', es', el', em'⟩ := kind_parts P'.kind
      have hb : b = b' := by
        by_cases q : k = 1
        · rw [if_pos q] at hc; exact cmpB_zero hc
        · rw [eb q, eb' q]
      have hn : n = n' := by
        by_cases q : k = 2
        · rw [if_neg (by omega), if_pos q] at hc; exact cmpI_zero hc
        · rw [en q, en' q]
      have hs : s = s' := by
        by_cases q : k = 3
        · rw [if_neg (by omega), if_neg (by omega), if_pos q] at hc; exact cmpS_zero hc
        · rw [es q, es' q]
      have hl : l = l' := by
        by_cases q : k = 4
        · rw [if_neg (by omega), if_neg (by omega), if_neg (by omega), if_pos q, cmpL_G] at hc
          exact cmpG_zero_mem l l' (fun x hx y hy h => ihl x hx (P.list x hx) y (P'.list y hy) h) hc
        · rw [el q, el' q]
      have hm : m = m' := by
        by_cases q : k = 5
        · rw [if_neg (by omega), if_neg (by omega), if_neg (by omega), if_neg (by omega), if_pos q, cmpM_G] at hc
          refine cmpG_zero_mem m m' (fun x hx y hy h => ?_) hc
          unfold cmpP at h
          by_cases e : x.1 = y.1
          · rw [if_neg (by simp [e])] at h
            exact Prod.ext e (ihm x hx (P.map x hx) y.2 (P'.map y hy) h)
          · rw [if_pos e] at h
            exact absurd (cmpS_zero h) e
        · rw [em q, em' q]
      rw [hb, hn, hs, hl, hm]
    · rw [if_pos hk] at hc
      exact absurd (cmpI_zero hc) hk

theorem good_parts {t : T} (h : t.good = true) : t.parts = 0 := by
  unfold T.good at h
  simp only [Bool.and_eq_true, decide_eq_true_eq] at h
  have h2 := h.2
  unfold T.check at h2
  by_cases hd : 16 < t.depth
  · rw [if_pos hd] at h2; omega
  · by_cases hz : 4096 < t.size
    · rw [if_neg hd, if_pos hz] at h2; omega
    · rw [if_neg hd, if_neg hz] at h2; exact h2

/-- Are two trees one? -/
noncomputable def T.same (t u : T) : Bool := @decide (t = u) (Classical.propDecidable _)
theorem T.same_of_eq {t u : T} (h : t = u) : T.same t u = true := @decide_eq_true _ (Classical.propDecidable _) h
theorem T.same_of_ne {t u : T} (h : t ≠ u) : T.same t u = false := @decide_eq_false _ (Classical.propDecidable _) h
theorem T.same_self (t : T) : T.same t t = true := T.same_of_eq rfl
theorem good_same {t u : T} (h : t.good = true) (h2 : u.good = true) : (T.cmp t u == 0) = T.same t u := by
  by_cases e : t = u
  · rw [T.same_of_eq e, e, (T.ord u).refl]; rfl
  · rw [T.same_of_ne e]
    have : T.cmp t u ≠ 0 := fun hc => e (eq_of_cmp t (good_parts h) u (good_parts h2) hc)
    simp [this]

end Go.Proofs.YthjdeckdklhphaaGreatDoor

/-
  The reference's Compare: it is package tree's.
-/
set_option linter.unusedVariables false
set_option linter.unusedSimpArgs false
namespace Go.Proofs.YthjdeckdklhphaaGreatDoor
open Go.RowKit Go.Sort

def befV (a b : Bool) : Int := if a = true then -1 else if b = true then 1 else 0
theorem below_of_eq {P : Program} {f : FuncId} {args : Array Value} {w : World} {v : Value} (h : Calls P f args w fun e w' => e = .returned v ∧ w = w') : Calls P f args w fun e w' => e = .returned v ∧ Below w.heap.size w w' :=
  h.mono fun e w' h => ⟨h.1, h.2 ▸ Below.refl _ _⟩

theorem bytesLess_G : ∀ a b : List UInt8, cmpG cmpU a b = befV (Op.bytesLess a b) (Op.bytesLess b a)
  | [], [] => by rw [cmpG]; simp [Op.bytesLess, befV]
  | [], _ :: _ => by rw [cmpG]; simp [Op.bytesLess, befV]
  | _ :: _, [] => by rw [cmpG]; simp [Op.bytesLess, befV]
  | x :: r, y :: q => by
    rw [cmpG, bytesLess_G r q, Op.bytesLess, Op.bytesLess]
    unfold cmpU cmpI befV
    by_cases h : x.toNat < y.toNat
    · simp [h, UInt8.lt_iff_toNat_lt]
    · by_cases h2 : y.toNat < x.toNat
      · have hne : x ≠ y := fun e => by subst e; omega
        simp [h, h2, UInt8.lt_iff_toNat_lt, hne]
      · have e : x = y := by
          have : x.toNat = y.toNat := by omega
          exact UInt8.toNat_inj.1 this
        subst e
        simp
theorem cmpS_less (a b : ByteArray) : cmpS a b = befV (Op.bytesLess a.toList b.toList) (Op.bytesLess b.toList a.toList) := by
  unfold cmpS
  rw [compareBytes_G, bytesLess_G, ByteArray.toList_eq, ByteArray.toList_eq]
theorem cmpS_ne {a b : ByteArray} (h : a ≠ b) : cmpS a b ≠ 0 := fun e => h (cmpS_zero e)
theorem cmpS_before {a b : ByteArray} (h : a ≠ b) : cmpS a b = befV (Op.bytesLess a.toList b.toList) true := by
  unfold befV
  have h1 := cmpS_less a b
  unfold befV at h1
  have h2 := cmpS_ne h
  by_cases e : Op.bytesLess a.toList b.toList = true
  · rw [if_pos e] at h1 ⊢; exact h1
  · rw [if_neg e] at h1 ⊢
    by_cases e2 : Op.bytesLess b.toList a.toList = true
    · rw [if_pos e2] at h1; rw [h1]; rfl
    · rw [if_neg e2] at h1; exact absurd h1 h2
theorem less_gtr (a b : ByteArray) : Op.bytesLess b.toList a.toList = (!Op.bytesLess a.toList b.toList && !a.toList == b.toList) := by
  have h1 := cmpS_less a b
  have h2 := cmpS_less b a
  have h3 := (ord_cmpS a).anti b
  rw [h1, h2] at h3
  by_cases e : a = b
  · subst e
    cases hx : Op.bytesLess a.toList a.toList with
    | true => rw [hx] at h3; exact absurd h3 (by decide)
    | false => simp
  · rw [str_ne e]
    have h4 := cmpS_ne e
    rw [h1] at h4
    revert h3 h4
    cases Op.bytesLess a.toList b.toList <;> cases Op.bytesLess b.toList a.toList <;> decide
theorem cmpS_gtr (a b : ByteArray) : cmpS a b = befV (Op.bytesLess a.toList b.toList) (!Op.bytesLess a.toList b.toList && !a.toList == b.toList) := (cmpS_less a b).trans (congrArg (befV _) (less_gtr a b))
theorem cmpP_key {p q : ByteArray × T} (h : p.1 ≠ q.1) : cmpP p q = cmpS p.1 q.1 := by unfold cmpP; rw [if_pos h]

end Go.Proofs.YthjdeckdklhphaaGreatDoor

/-
  Values laid over others: on the trees alone.
-/
set_option linter.unusedVariables false
set_option linter.unusedSimpArgs false
namespace Go.Proofs.YthjdeckdklhphaaGreatDoor
open Go.RowKit

abbrev Prs := List (ByteArray × T)

/-- Those below a key. -/
def cutB (key : ByteArray) : Prs → Prs
  | [] => []
  | p :: r => if ltS p.1 key = true then p :: cutB key r else []
/-- What stands under it, or nothing. -/
def cutH (key : ByteArray) : Prs → T
  | [] => T.nil
  | p :: r => if ltS p.1 key = true then cutH key r else if p.1 = key then p.2 else T.nil
/-- Those above. -/
def cutA (key : ByteArray) : Prs → Prs
  | [] => []
  | p :: r => if ltS p.1 key = true then cutA key r else if p.1 = key then r else p :: r

mutual
/-- u laid over t. -/
def T.over (t : T) : T → T
  | .mk k b n s l m => if k = 5 then .mk 5 false 0 ⟨#[]⟩ [] (overR t.pairs m) else .mk k b n s l m
termination_by u => SizeOf.sizeOf u
decreasing_by simp only [T.mk.sizeOf_spec]; omega
def overR (rest : Prs) : Prs → Prs
  | [] => rest
  | p :: ps => cutB p.1 rest ++ ((if p.2.kind = 0 then [] else [(p.1, T.over (cutH p.1 rest) p.2)]) ++ overR (cutA p.1 rest) ps)
termination_by m => SizeOf.sizeOf m
decreasing_by
  · obtain ⟨a, b⟩ := p
    simp only [List.cons.sizeOf_spec, Prod.mk.sizeOf_spec]; omega
  · simp only [List.cons.sizeOf_spec]; omega
end

theorem over_map (t : T) (b : Bool) (n : Int) (s : ByteArray) (l : List T) (m : Prs) : T.over t (.mk 5 b n s l m) = .mk 5 false 0 ⟨#[]⟩ [] (overR t.pairs m) := by rw [T.over, if_pos rfl]
theorem over_other (t : T) {k : Int} (b : Bool) (n : Int) (s : ByteArray) (l : List T) (m : Prs) (h : k ≠ 5) : T.over t (.mk k b n s l m) = .mk k b n s l m := by rw [T.over, if_neg h]
theorem overR_nil (rest : Prs) : overR rest [] = rest := by rw [overR]
theorem overR_cons (rest : Prs) (p : ByteArray × T) (ps : Prs) : overR rest (p :: ps) = cutB p.1 rest ++ ((if p.2.kind = 0 then [] else [(p.1, T.over (cutH p.1 rest) p.2)]) ++ overR (cutA p.1 rest) ps) := by rw [overR]

/-- Where a key cuts. -/
theorem cut_at (key : ByteArray) : ∀ (i : Nat) (ps : Prs), i ≤ ps.length → (∀ j (h : j < ps.length), j < i → ltS ps[j].1 key = true) → (∀ h : i < ps.length, ltS ps[i].1 key = false) →
    cutB key ps = ps.take i ∧ ((∃ h : i < ps.length, ps[i].1 = key ∧ cutH key ps = ps[i].2 ∧ cutA key ps = ps.drop (i + 1)) ∨ ((∀ h : i < ps.length, ps[i].1 ≠ key) ∧ cutH key ps = T.nil ∧ cutA key ps = ps.drop i))
  | 0, [], _, _, _ => ⟨rfl, .inr ⟨fun h => absurd h (by simp), rfl, rfl⟩⟩
  | 0, p :: r, _, _, h1 => by
    have hf : ltS p.1 key = false := h1 (by simp)
    have n1 : ¬ ltS p.1 key = true := by simp [hf]
    refine ⟨by rw [cutB, if_neg n1]; rfl, ?_⟩
    by_cases e : p.1 = key
    · exact .inl ⟨by simp, e, by rw [cutH, if_neg n1, if_pos e]; rfl, by rw [cutA, if_neg n1, if_pos e]; rfl⟩
    · exact .inr ⟨fun _ => e, by rw [cutH, if_neg n1, if_neg e], by rw [cutA, if_neg n1, if_neg e]; rfl⟩
  | i + 1, [], h, _, _ => absurd h (by simp)
  | i + 1, p :: r, h, h0, h1 => by
    have hf : ltS p.1 key = true := h0 0 (by simp) (by omega)
    obtain ⟨e1, e2⟩ := cut_at key i r (by simpa using h) (fun j hj hij => by have := h0 (j + 1) (by simpa using hj) (by omega); simpa using this) (fun hi => by have := h1 (by simpa using hi); simpa using this)
    refine ⟨by rw [cutB, if_pos hf, e1]; rfl, ?_⟩
    rcases e2 with ⟨hi, e, a1, a2⟩ | ⟨hn, a1, a2⟩
    · exact .inl ⟨by simpa using hi, by simpa using e, by rw [cutH, if_pos hf, a1]; simp, by rw [cutA, if_pos hf, a2]; simp⟩
    · exact .inr ⟨fun hi => by simpa using hn (by simpa using hi), by rw [cutH, if_pos hf, a1], by rw [cutA, if_pos hf, a2]; simp⟩

theorem cut_len (key : ByteArray) : ∀ ps : Prs, (cutB key ps).length + (cutA key ps).length ≤ ps.length
  | [] => by simp [cutB, cutA]
  | p :: r => by
    have := cut_len key r
    rw [cutB, cutA]
    split
    · simp; omega
    · split <;> simp

end Go.Proofs.YthjdeckdklhphaaGreatDoor

/-
  What is laid over others: what is stripped stays so.
-/
set_option linter.unusedVariables false
set_option linter.unusedSimpArgs false
namespace Go.Proofs.YthjdeckdklhphaaGreatDoor
open Go.RowKit

theorem overR_empty (m : Prs) : overR [] m = (m.filter fun p => decide (p.2.kind ≠ 0)).map fun p => (p.1, T.over T.nil p.2) := by
  induction m with
  | nil => rw [overR_nil]; rfl
  | cons p r ih =>
    rw [overR_cons]
    have e1 : cutB p.1 [] = [] := rfl
    have e2 : cutA p.1 [] = [] := rfl
    have e3 : cutH p.1 [] = T.nil := rfl
    rw [e1, e2, e3, ih, List.nil_append]
    by_cases h : p.2.kind = 0
    · rw [if_pos h, List.filter_cons_of_neg (by simp [h])]; rfl
    · rw [if_neg h, List.filter_cons_of_pos (by simp [h])]; rfl

theorem over_kind (t u : T) : (T.over t u).kind = u.kind := by
  obtain ⟨k, b, n, s, l, m⟩ := u
  by_cases h : k = 5
  · subst h; rw [over_map]; rfl
  · rw [over_other t b n s l m h]

/-- Pairs of what is stripped, and not nothing. -/
def Pl (ps : Prs) : Prop := ∀ p ∈ ps, p.2.kind ≠ 0 ∧ T.over T.nil p.2 = p.2
theorem Pl.same {ps : Prs} (h : Pl ps) : overR [] ps = ps := by
  rw [overR_empty]
  induction ps with
  | nil => rfl
  | cons p r ih =>
    obtain ⟨h1, h2⟩ := h p (by simp)
    rw [List.filter_cons_of_pos (by simp [h1]), List.map_cons, h2, ih fun q hq => h q (by simp [hq])]

theorem nil_pairs : T.nil.pairs = [] := rfl
theorem over_nil_map (b : Bool) (n : Int) (s : ByteArray) (l : List T) (m : Prs) : T.over T.nil (.mk 5 b n s l m) = .mk 5 false 0 ⟨#[]⟩ [] (overR [] m) := by rw [over_map, nil_pairs]

theorem Pl.of_empty {m : Prs} (h : ∀ p ∈ m, T.over T.nil (T.over T.nil p.2) = T.over T.nil p.2) : Pl (overR [] m) := by
  intro q hq
  rw [overR_empty] at hq
  obtain ⟨p, hp, rfl⟩ := List.mem_map.1 hq
  obtain ⟨hp1, hp2⟩ := List.mem_filter.1 hp
  refine ⟨?_, h p hp1⟩
  show (T.over T.nil p.2).kind ≠ 0
  rw [over_kind]
  simpa using hp2

/-- What is stripped is stripped. -/
theorem over_idem (u : T) : T.over T.nil (T.over T.nil u) = T.over T.nil u := by
  induction u using T.ind with
  | h k b n s l m hl hm =>
    by_cases h : k = 5
    · subst h
      rw [over_nil_map, over_nil_map, (Pl.of_empty hm).same]
    · rw [over_other _ b n s l m h, over_other _ b n s l m h]

/-- The pairs of what is stripped. -/
theorem Pl.of_plain {c : T} (h : T.over T.nil c = c) : Pl c.pairs := by
  obtain ⟨k, b, n, s, l, m⟩ := c
  by_cases h5 : k = 5
  · subst h5
    rw [over_nil_map] at h
    have e : overR [] m = m := by injection h
    have : (T.mk 5 b n s l m).pairs = overR [] m := by rw [T.pairs, if_pos rfl, e]
    rw [this]
    exact Pl.of_empty fun p hp => over_idem p.2
  · have : (T.mk k b n s l m).pairs = [] := by rw [T.pairs, if_neg h5]
    rw [this]
    intro p hp; cases hp

theorem cutB_mem {key : ByteArray} : ∀ {ps : Prs} {q : ByteArray × T}, q ∈ cutB key ps → q ∈ ps
  | [], q, h => by cases h
  | p :: r, q, h => by
    rw [cutB] at h
    split at h
    · rcases List.mem_cons.1 h with rfl | h
      · simp
      · exact List.mem_cons_of_mem _ (cutB_mem h)
    · cases h
theorem cutA_mem {key : ByteArray} : ∀ {ps : Prs} {q : ByteArray × T}, q ∈ cutA key ps → q ∈ ps
  | [], q, h => by cases h
  | p :: r, q, h => by
    rw [cutA] at h
    split at h
    · exact List.mem_cons_of_mem _ (cutA_mem h)
    · split at h
      · exact List.mem_cons_of_mem _ h
      · exact h
theorem cutH_mem (key : ByteArray) : ∀ ps : Prs, cutH key ps = T.nil ∨ ∃ q ∈ ps, q.1 = key ∧ q.2 = cutH key ps
  | [] => .inl rfl
  | p :: r => by
    rw [cutH]
    split
    · rcases cutH_mem key r with h | ⟨q, hq, h⟩
      · exact .inl h
      · exact .inr ⟨q, List.mem_cons_of_mem _ hq, h⟩
    · split
      · rename_i h; exact .inr ⟨p, by simp, h, rfl⟩
      · exact .inl rfl
theorem Pl.here {key : ByteArray} {ps : Prs} (h : Pl ps) : Pl (cutH key ps).pairs := by
  rcases cutH_mem key ps with e | ⟨q, hq, _, e⟩
  · rw [e, nil_pairs]; intro p hp; cases hp
  · rw [← e]; exact Pl.of_plain (h q hq).2

theorem Pl.overR {m : Prs} (ih : ∀ p ∈ m, ∀ t : T, Pl t.pairs → T.over T.nil (T.over t p.2) = T.over t p.2) : ∀ {rest : Prs}, Pl rest → Pl (overR rest m) := by
  induction m with
  | nil => intro rest h; rw [overR_nil]; exact h
  | cons p r ihr =>
    intro rest h
    rw [overR_cons]
    have h1 : Pl (Go.Proofs.YthjdeckdklhphaaGreatDoor.overR (cutA p.1 rest) r) := ihr (fun q hq => ih q (by simp [hq])) fun q hq => h q (cutA_mem hq)
    intro q hq
    rcases List.mem_append.1 hq with hq | hq
    · exact h q (cutB_mem hq)
    · rcases List.mem_append.1 hq with hq | hq
      · by_cases h0 : p.2.kind = 0
        · rw [if_pos h0] at hq; cases hq
        · rw [if_neg h0] at hq
          obtain rfl : q = (p.1, T.over (cutH p.1 rest) p.2) := by simpa using hq
          refine ⟨?_, ih p (by simp) _ h.here⟩
          show (T.over _ p.2).kind ≠ 0
          rw [over_kind]; exact h0
      · exact h1 q hq

/-- Over what is stripped nothing comes back. -/
theorem over_plain (u : T) : ∀ t : T, Pl t.pairs → T.over T.nil (T.over t u) = T.over t u := by
  induction u using T.ind with
  | h k b n s l m hl hm =>
    intro t ht
    by_cases h : k = 5
    · subst h
      rw [over_map, over_nil_map, (Pl.overR hm ht).same]
    · rw [over_other _ b n s l m h, over_other _ b n s l m h]

/-- An empty map is taken for nothing. -/
theorem over_pairs {t t' : T} (u : T) (h : t.pairs = t'.pairs) : T.over t u = T.over t' u := by
  obtain ⟨k, b, n, s, l, m⟩ := u
  by_cases h5 : k = 5
  · subst h5; rw [over_map, over_map, h]
  · rw [over_other _ b n s l m h5, over_other _ b n s l m h5]

end Go.Proofs.YthjdeckdklhphaaGreatDoor
