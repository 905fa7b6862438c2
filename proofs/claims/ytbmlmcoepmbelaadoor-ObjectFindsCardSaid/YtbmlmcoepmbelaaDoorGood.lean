/-
  What follows of a value that may be; two of these that compare as 0 are one.
-/
import Derived.Test.YtbmlmcoepmbelaaDoorRight
import Derived.Test.YtbmlmcoepmbelaaDoorOrder
set_option linter.unusedVariables false
set_option linter.unusedSimpArgs false
namespace Go.Proofs.YtbmlmcoepmbelaaDoor
open Go.RowKit

theorem firstNZ_all : ∀ (l : List Int), firstNZ l = 0 → ∀ x ∈ l, x = 0
  | [], _, _, h => by cases h
  | y :: r, h, x, hx => by
    by_cases hy : y = 0
    · rw [firstNZ, if_pos hy] at h
      rcases List.mem_cons.1 hx with rfl | hx
      · exact hy
      · exact firstNZ_all r h x hx
    · rw [firstNZ, if_neg hy] at h
      exact absurd h hy

theorem pcode_zero {m : List (ByteArray × T)} {i : Nat} (hi : i < m.length) (h : pcode m i = 0) : keyB m[i].1 = true ∧ (∀ h0 : 0 < i, leS m[i].1 (m[i - 1]'(by omega)).1 = false) ∧ m[i].2.parts = 0 := by
  cases hk : keyB m[i].1 with
  | false => rw [pcode_key m i hi hk] at h; omega
  | true =>
    by_cases hp : ∀ h0 : 0 < i, leS m[i].1 (m[i - 1]'(by omega)).1 = false
    · rw [pcode_in m i hi hk hp] at h
      exact ⟨rfl, hp, h⟩
    · obtain ⟨h0, h1⟩ := Classical.not_forall.1 hp
      rw [pcode_twice m i hi hk h0 (by simpa using h1)] at h
      omega

/-- A value that may be, part by part. -/
structure PartsOk (k : Int) (b : Bool) (n : Int) (s : ByteArray) (l : List T) (m : List (ByteArray × T)) : Prop where
  kind : kindBad k b n s.toList.isEmpty l.length m.length = false
  text : textB s = true
  list : ∀ x ∈ l, x.parts = 0
  keys : ∀ i (hi : i < m.length), keyB m[i].1 = true
  rise : ∀ i (hi : i < m.length) (h0 : 0 < i), leS m[i].1 (m[i - 1]'(by omega)).1 = false
  map : ∀ q ∈ m, q.2.parts = 0

theorem parts_zero {k : Int} {b : Bool} {n : Int} {s : ByteArray} {l : List T} {m : List (ByteArray × T)} (h : (T.mk k b n s l m).parts = 0) : PartsOk k b n s l m := by
  cases hk : kindBad k b n s.toList.isEmpty l.length m.length with
  | true => rw [parts_kind hk] at h; omega
  | false =>
    cases ht : textB s with
    | false => rw [parts_text hk ht] at h; omega
    | true =>
      have hl : ∀ x ∈ l, x.parts = 0 := by
        rw [T.parts_mk, if_neg (by simp [hk]), if_neg (by simp [ht])] at h
        by_cases hz : firstNZ (l.map T.parts) = 0
        · exact fun x hx => firstNZ_all _ hz _ (List.mem_map.2 ⟨x, hx, rfl⟩)
        · rw [if_pos hz] at h
          exact absurd h hz
      have hm : ∀ i, i < m.length → pcode m i = 0 := fun i hi => by
        rw [T.parts_mk, if_neg (by simp [hk]), if_neg (by simp [ht]), if_neg (by
          rw [Classical.not_not]
          exact firstNZ_zero _ fun x hx => by obtain ⟨y, hy, rfl⟩ := List.mem_map.1 hx; exact hl y hy)] at h
        unfold partsP at h
        exact firstNZ_all _ h _ (List.mem_map.2 ⟨i, by simpa using hi, rfl⟩)
      refine ⟨hk, ht, hl, fun i hi => (pcode_zero hi (hm i hi)).1, fun i hi h0 => (pcode_zero hi (hm i hi)).2.1 h0, fun q hq => ?_⟩
      obtain ⟨i, hi, rfl⟩ := List.getElem_of_mem hq
      exact (pcode_zero hi (hm i hi)).2.2

theorem empty_of_isEmpty {s : ByteArray} (h : s.toList.isEmpty = true) : s = ⟨#[]⟩ := by
  apply toList_inj
  rw [List.isEmpty_iff] at h
  rw [h, ByteArray.toList_eq]

/-- By the kind: what isn't of that kind is empty. -/
theorem kind_parts {k : Int} {b : Bool} {n : Int} {s : ByteArray} {l : List T} {m : List (ByteArray × T)} (h : kindBad k b n s.toList.isEmpty l.length m.length = false) :
    0 ≤ k ∧ k ≤ 5 ∧ (k ≠ 1 → b = false) ∧ (k ≠ 2 → n = 0) ∧ (k ≠ 3 → s = ⟨#[]⟩) ∧ (k ≠ 4 → l = []) ∧ (k ≠ 5 → m = []) := by
  unfold kindBad at h
  simp only [Bool.or_eq_false_iff, Bool.and_eq_false_iff, Bool.not_eq_false', decide_eq_false_iff_not, decide_eq_true_eq, Bool.not_eq_true'] at h
  obtain ⟨⟨⟨⟨⟨⟨h0, h5⟩, hb⟩, hn⟩, hs⟩, hl⟩, hm⟩ := h
  refine ⟨by omega, by omega, fun q => ?_, fun q => ?_, fun q => ?_, fun q => ?_, fun q => ?_⟩
  · rcases hb with hb | hb
    · exact absurd hb q
    · exact hb
  · rcases hn with hn | hn
    · exact absurd hn q
    · exact hn
  · rcases hs with hs | hs
    · exact absurd hs q
    · exact empty_of_isEmpty hs
  · rcases hl with hl | hl
    · exact absurd hl q
    · exact List.eq_nil_of_length_eq_zero (by omega)
  · rcases hm with hm | hm
    · exact absurd hm q
    · exact List.eq_nil_of_length_eq_zero (by omega)

theorem cmpG_zero_mem {α : Type} {f : α → α → Int} : ∀ xs ys : List α, (∀ x ∈ xs, ∀ y ∈ ys, f x y = 0 → x = y) → cmpG f xs ys = 0 → xs = ys
  | [], [], _, _ => rfl
  | [], _ :: _, _, h => by rw [cmpG] at h; omega
  | _ :: _, [], _, h => by rw [cmpG] at h; omega
  | x :: r, y :: q, hf, h => by
    by_cases hz : f x y = 0
    · rw [cmpG, if_neg (by simp [hz])] at h
      rw [hf x (by simp) y (by simp) hz, cmpG_zero_mem r q (fun a ha b hb => hf a (by simp [ha]) b (by simp [hb])) h]
    · rw [cmpG, if_pos hz] at h
      exact absurd h hz

theorem cmpB_zero {a b : Bool} (h : cmpB a b = 0) : a = b := by
  revert h
  cases a <;> cases b <;> decide

/-- Two values that may be compare as 0 only if they are one. -/
theorem eq_of_cmp (t : T) : t.parts = 0 → ∀ u : T, u.parts = 0 → T.cmp t u = 0 → t = u := by
  induction t using T.ind with
  | h k b n s l m ihl ihm =>
    intro ht u hu hc
    obtain ⟨k', b', n', s', l', m'⟩ := u
    have P := parts_zero ht
    have P' := parts_zero hu
    rw [T.cmp_mk] at hc
    by_cases hk : k = k'
    · rw [if_neg (by simp [hk])] at hc
      subst hk
      obtain ⟨k0, k5, eb, en, es, el, em⟩ := kind_parts P.kind
      obtain ⟨_, _, eb', en', es', el', em'⟩ := kind_parts P'.kind
      have hb : b = b' := by
        by_cases q : k = 1
        · rw [if_pos q] at hc; exact cmpB_zero hc
        · rw [eb q, eb' q]
      have hn : n = n' := by
        by_cases q : k = 2
        · rw [if_neg (by omega), if_pos q] at hc; exact cmpI_zero hc
        · rw [en q, en' q]
      have hs : s = s' := by
        by_cases q : k = 3
        · rw [if_neg (by omega), if_neg (by omega), if_pos q] at hc; exact cmpS_zero hc
        · rw [es q, es' q]
      have hl : l = l' := by
        by_cases q : k = 4
        · rw [if_neg (by omega), if_neg (by omega), if_neg (by omega), if_pos q, cmpL_G] at hc
          exact cmpG_zero_mem l l' (fun x hx y hy h => ihl x hx (P.list x hx) y (P'.list y hy) h) hc
        · rw [el q, el' q]
      have hm : m = m' := by
        by_cases q : k = 5
        · rw [if_neg (by omega), if_neg (by omega), if_neg (by omega), if_neg (by omega), if_pos q, cmpM_G] at hc
          refine cmpG_zero_mem m m' (fun x hx y hy h => ?_) hc
          unfold cmpP at h
          by_cases e : x.1 = y.1
          · rw [if_neg (by simp [e])] at h
            exact Prod.ext e (ihm x hx (P.map x hx) y.2 (P'.map y hy) h)
          · rw [if_pos e] at h
            exact absurd (cmpS_zero h) e
        · rw [em q, em' q]
      rw [hb, hn, hs, hl, hm]
    · rw [if_pos hk] at hc
      exact absurd (cmpI_zero hc) hk

theorem good_parts {t : T} (h : t.good = true) : t.parts = 0 := by
  unfold T.good at h
  simp only [Bool.and_eq_true, decide_eq_true_eq] at h
  have h2 := h.2
  unfold T.check at h2
  by_cases hd : 16 < t.depth
  · rw [if_pos hd] at h2; omega
  · by_cases hz : 4096 < t.size
    · rw [if_neg hd, if_pos hz] at h2; omega
    · rw [if_neg hd, if_neg hz] at h2; exact h2

/-- Are two trees one? -/
noncomputable def T.same (t u : T) : Bool := @decide (t = u) (Classical.propDecidable _)
theorem T.same_of_eq {t u : T} (h : t = u) : T.same t u = true := @decide_eq_true _ (Classical.propDecidable _) h
theorem T.same_of_ne {t u : T} (h : t ≠ u) : T.same t u = false := @decide_eq_false _ (Classical.propDecidable _) h
theorem T.same_self (t : T) : T.same t t = true := T.same_of_eq rfl
theorem good_same {t u : T} (h : t.good = true) (h2 : u.good = true) : (T.cmp t u == 0) = T.same t u := by
  by_cases e : t = u
  · rw [T.same_of_eq e, e, (T.ord u).refl]; rfl
  · rw [T.same_of_ne e]
    have : T.cmp t u ≠ 0 := fun hc => e (eq_of_cmp t (good_parts h) u (good_parts h2) hc)
    simp [this]

end Go.Proofs.YtbmlmcoepmbelaaDoor
