/-
  A map with a value under a key, and without one: on the trees alone.
-/
import Derived.Test.YtnfmmgbghbaecaaGetM
import Derived.Test.YtnfmmgbghbaecaaGood
set_option linter.unusedVariables false
set_option linter.unusedSimpArgs false
namespace Go.Proofs.Ytnfmmgbghbaecaa
open Go.RowKit

/-- Go's '<' on texts. -/
def ltS (a b : ByteArray) : Bool := Op.bytesLess a.toList b.toList

/-- The pairs below, this one, the pairs above. -/
def putR (key : ByteArray) (x : T) : List (ByteArray × T) → List (ByteArray × T)
  | [] => [(key, x)]
  | p :: r => if ltS p.1 key = true then p :: putR key x r else if p.1 = key then (key, x) :: r else (key, x) :: p :: r

/-- What is under a key. -/
def findR (key : ByteArray) (m : List (ByteArray × T)) : Option T := (m.find? fun p => decide (p.1 = key)).map (·.2)

theorem findR_skip {key : ByteArray} {p : ByteArray × T} {r : List (ByteArray × T)} (h : p.1 ≠ key) : findR key (p :: r) = findR key r := by
  unfold findR
  rw [List.find?_cons_of_neg (by simpa using h)]
theorem findR_here {key : ByteArray} {p : ByteArray × T} {r : List (ByteArray × T)} (h : p.1 = key) : findR key (p :: r) = some p.2 := by
  unfold findR
  rw [List.find?_cons_of_pos (by simpa using h)]
  rfl

theorem ltS_ne {a b : ByteArray} (h : ltS a b = true) (irr : ∀ l, Op.bytesLess l l = false) : a ≠ b := fun e => by
  subst e
  unfold ltS at h
  rw [irr] at h
  cases h

theorem bytesLess_irr : ∀ l : List UInt8, Op.bytesLess l l = false
  | [] => rfl
  | x :: r => by
    rw [Op.bytesLess]
    simp [bytesLess_irr r]

theorem ltS_irr (a : ByteArray) : ltS a a = false := bytesLess_irr _

theorem putR_lt {key : ByteArray} {x : T} {p : ByteArray × T} {r : List (ByteArray × T)} (h : ltS p.1 key = true) : putR key x (p :: r) = p :: putR key x r := by rw [putR, if_pos h]
theorem putR_eq {key : ByteArray} {x : T} {p : ByteArray × T} {r : List (ByteArray × T)} (h : p.1 = key) : putR key x (p :: r) = (key, x) :: r := by
  rw [putR, if_neg (by rw [h, ltS_irr]; simp), if_pos h]
theorem putR_gt {key : ByteArray} {x : T} {p : ByteArray × T} {r : List (ByteArray × T)} (h : ltS p.1 key = false) (h2 : p.1 ≠ key) : putR key x (p :: r) = (key, x) :: p :: r := by
  rw [putR, if_neg (by simp [h]), if_neg h2]

theorem putR_cases (p : ByteArray × T) (key : ByteArray) : (ltS p.1 key = true ∧ p.1 ≠ key) ∨ (p.1 = key) ∨ (ltS p.1 key = false ∧ p.1 ≠ key) := by
  by_cases h : p.1 = key
  · exact .inr (.inl h)
  · cases h2 : ltS p.1 key with
    | true => exact .inl ⟨rfl, h⟩
    | false => exact .inr (.inr ⟨rfl, h⟩)

theorem putR_find (key : ByteArray) (x : T) : ∀ m, findR key (putR key x m) = some x
  | [] => findR_here rfl
  | p :: r => by
    rcases putR_cases p key with ⟨h, hn⟩ | h | ⟨h, hn⟩
    · rw [putR_lt h, findR_skip hn, putR_find key x r]
    · rw [putR_eq h]; exact findR_here rfl
    · rw [putR_gt h hn]; exact findR_here rfl

theorem putR_other (key other : ByteArray) (x : T) (ho : other ≠ key) : ∀ m, findR other (putR key x m) = findR other m
  | [] => by
    show findR other [(key, x)] = findR other []
    exact findR_skip (p := (key, x)) (fun e => ho e.symm)
  | p :: r => by
    rcases putR_cases p key with ⟨h, hn⟩ | h | ⟨h, hn⟩
    · rw [putR_lt h]
      by_cases e : p.1 = other
      · rw [findR_here e, findR_here e]
      · rw [findR_skip e, findR_skip e, putR_other key other x ho r]
    · rw [putR_eq h, findR_skip (p := p) (by rw [h]; exact fun e => ho e.symm)]; exact findR_skip (p := (key, x)) (fun e => ho e.symm)
    · rw [putR_gt h hn]; exact findR_skip (p := (key, x)) (fun e => ho e.symm)

theorem putR_twice (key : ByteArray) (x y : T) : ∀ m, putR key x (putR key y m) = putR key x m
  | [] => by
    show putR key x [(key, y)] = [(key, x)]
    exact putR_eq (p := (key, y)) rfl
  | p :: r => by
    rcases putR_cases p key with ⟨h, hn⟩ | h | ⟨h, hn⟩
    · rw [putR_lt h, putR_lt h, putR_lt h, putR_twice key x y r]
    · rw [putR_eq h, putR_eq h]; exact putR_eq (p := (key, y)) rfl
    · rw [putR_gt h hn, putR_gt h hn]; exact putR_eq (p := (key, y)) rfl

/-- Without a key. -/
def dropR (key : ByteArray) (m : List (ByteArray × T)) : List (ByteArray × T) := m.filter fun p => !decide (p.1 = key)
theorem dropR_find (key : ByteArray) (m : List (ByteArray × T)) : findR key (dropR key m) = none := by
  unfold findR dropR
  rw [List.find?_eq_none.2 fun p hp => by have := (List.mem_filter.1 hp).2; simpa using this]
  rfl

/-- A map with a value under a key; of others a map with that alone. -/
def T.put (t : T) (key : ByteArray) (x : T) : T := .mk 5 false 0 ⟨#[]⟩ [] (putR key x t.pairs)
/-- A map without a key; others are as they are. -/
def T.drop (t : T) (key : ByteArray) : T := if t.kind = 5 then .mk 5 false 0 ⟨#[]⟩ [] (dropR key t.map) else t

theorem T.get_find (t : T) (key : ByteArray) : t.get key = findR key t.pairs := rfl
theorem put_pairs (t : T) (key : ByteArray) (x : T) : (t.put key x).pairs = putR key x t.pairs := by rw [T.put, T.pairs, if_pos rfl]
theorem get_put (t : T) (key : ByteArray) (x : T) : (t.put key x).get key = some x := by rw [T.get_find, put_pairs, putR_find]
theorem get_put_other (t : T) (key other : ByteArray) (x : T) (h : other ≠ key) : (t.put key x).get other = t.get other := by rw [T.get_find, put_pairs, putR_other key other x h, T.get_find]
theorem put_put (t : T) (key : ByteArray) (x y : T) : (t.put key y).put key x = t.put key x := by
  rw [T.put, put_pairs, putR_twice, T.put]
theorem get_drop (t : T) (key : ByteArray) : (t.drop key).get key = none := by
  obtain ⟨k, b, n, s, l, m⟩ := t
  unfold T.drop
  by_cases h : k = 5
  · rw [if_pos (show (T.mk k b n s l m).kind = 5 from h), T.get_find, T.pairs, if_pos rfl, dropR_find]
  · rw [if_neg (show ¬ (T.mk k b n s l m).kind = 5 from h), T.get_find, T.pairs, if_neg h]
    rfl

end Go.Proofs.Ytnfmmgbghbaecaa

/-
  Values laid over others: on the trees alone.
-/
set_option linter.unusedVariables false
set_option linter.unusedSimpArgs false
namespace Go.Proofs.Ytnfmmgbghbaecaa
open Go.RowKit

abbrev Prs := List (ByteArray × T)

/-- Those below a key. -/
def cutB (key : ByteArray) : Prs → Prs
  | [] => []
  | p :: r => if ltS p.1 key = true then p :: cutB key r else []
/-- What stands under it, or nothing. -/
def cutH (key : ByteArray) : Prs → T
  | [] => T.nil
  | p :: r => if ltS p.1 key = true then cutH key r else if p.1 = key then p.2 else T.nil
/-- Those above. -/
def cutA (key : ByteArray) : Prs → Prs
  | [] => []
  | p :: r => if ltS p.1 key = true then cutA key r else if p.1 = key then r else p :: r

mutual
/-- u laid over t. -/
def T.over (t : T) : T → T
  | .mk k b n s l m => if k = 5 then .mk 5 false 0 ⟨#[]⟩ [] (overR t.pairs m) else .mk k b n s l m
termination_by u => SizeOf.sizeOf u
decreasing_by simp only [T.mk.sizeOf_spec]; omega
def overR (rest : Prs) : Prs → Prs
  | [] => rest
  | p :: ps => cutB p.1 rest ++ ((if p.2.kind = 0 then [] else [(p.1, T.over (cutH p.1 rest) p.2)]) ++ overR (cutA p.1 rest) ps)
termination_by m => SizeOf.sizeOf m
decreasing_by
  · obtain ⟨a, b⟩ := p
    simp only [List.cons.sizeOf_spec, Prod.mk.sizeOf_spec]; omega
  · simp only [List.cons.sizeOf_spec]; omega
end

theorem over_map (t : T) (b : Bool) (n : Int) (s : ByteArray) (l : List T) (m : Prs) : T.over t (.mk 5 b n s l m) = .mk 5 false 0 ⟨#[]⟩ [] (overR t.pairs m) := by rw [T.over, if_pos rfl]
theorem over_other (t : T) {k : Int} (b : Bool) (n : Int) (s : ByteArray) (l : List T) (m : Prs) (h : k ≠ 5) : T.over t (.mk k b n s l m) = .mk k b n s l m := by rw [T.over, if_neg h]
theorem overR_nil (rest : Prs) : overR rest [] = rest := by rw [overR]
theorem overR_cons (rest : Prs) (p : ByteArray × T) (ps : Prs) : overR rest (p :: ps) = cutB p.1 rest ++ ((if p.2.kind = 0 then [] else [(p.1, T.over (cutH p.1 rest) p.2)]) ++ overR (cutA p.1 rest) ps) := by rw [overR]

/-- Where a key cuts. -/
theorem cut_at (key : ByteArray) : ∀ (i : Nat) (ps : Prs), i ≤ ps.length → (∀ j (h : j < ps.length), j < i → ltS ps[j].1 key = true) → (∀ h : i < ps.length, ltS ps[i].1 key = false) →
    cutB key ps = ps.take i ∧ ((∃ h : i < ps.length, ps[i].1 = key ∧ cutH key ps = ps[i].2 ∧ cutA key ps = ps.drop (i + 1)) ∨ ((∀ h : i < ps.length, ps[i].1 ≠ key) ∧ cutH key ps = T.nil ∧ cutA key ps = ps.drop i))
  | 0, [], _, _, _ => ⟨rfl, .inr ⟨fun h => absurd h (by simp), rfl, rfl⟩⟩
  | 0, p :: r, _, _, h1 => by
    have hf : ltS p.1 key = false := h1 (by simp)
    have n1 : ¬ ltS p.1 key = true := by simp [hf]
    refine ⟨by rw [cutB, if_neg n1]; rfl, ?_⟩
    by_cases e : p.1 = key
    · exact .inl ⟨by simp, e, by rw [cutH, if_neg n1, if_pos e]; rfl, by rw [cutA, if_neg n1, if_pos e]; rfl⟩
    · exact .inr ⟨fun _ => e, by rw [cutH, if_neg n1, if_neg e], by rw [cutA, if_neg n1, if_neg e]; rfl⟩
  | i + 1, [], h, _, _ => absurd h (by simp)
  | i + 1, p :: r, h, h0, h1 => by
    have hf : ltS p.1 key = true := h0 0 (by simp) (by omega)
    obtain ⟨e1, e2⟩ := cut_at key i r (by simpa using h) (fun j hj hij => by have := h0 (j + 1) (by simpa using hj) (by omega); simpa using this) (fun hi => by have := h1 (by simpa using hi); simpa using this)
    refine ⟨by rw [cutB, if_pos hf, e1]; rfl, ?_⟩
    rcases e2 with ⟨hi, e, a1, a2⟩ | ⟨hn, a1, a2⟩
    · exact .inl ⟨by simpa using hi, by simpa using e, by rw [cutH, if_pos hf, a1]; simp, by rw [cutA, if_pos hf, a2]; simp⟩
    · exact .inr ⟨fun hi => by simpa using hn (by simpa using hi), by rw [cutH, if_pos hf, a1], by rw [cutA, if_pos hf, a2]; simp⟩

theorem cut_len (key : ByteArray) : ∀ ps : Prs, (cutB key ps).length + (cutA key ps).length ≤ ps.length
  | [] => by simp [cutB, cutA]
  | p :: r => by
    have := cut_len key r
    rw [cutB, cutA]
    split
    · simp; omega
    · split <;> simp

end Go.Proofs.Ytnfmmgbghbaecaa

/-
  What is laid over others: what is stripped stays so.
-/
set_option linter.unusedVariables false
set_option linter.unusedSimpArgs false
namespace Go.Proofs.Ytnfmmgbghbaecaa
open Go.RowKit

theorem overR_empty (m : Prs) : overR [] m = (m.filter fun p => decide (p.2.kind ≠ 0)).map fun p => (p.1, T.over T.nil p.2) := by
  induction m with
  | nil => rw [overR_nil]; rfl
  | cons p r ih =>
    rw [overR_cons]
    have e1 : cutB p.1 [] = [] := rfl
    have e2 : cutA p.1 [] = [] := rfl
    have e3 : cutH p.1 [] = T.nil := rfl
    rw [e1, e2, e3, ih, List.nil_append]
    by_cases h : p.2.kind = 0
    · rw [if_pos h, List.filter_cons_of_neg (by simp [h])]; rfl
    · rw [if_neg h, List.filter_cons_of_pos (by simp [h])]; rfl

theorem over_kind (t u : T) : (T.over t u).kind = u.kind := by
  obtain ⟨k, b, n, s, l, m⟩ := u
  by_cases h : k = 5
  · subst h; rw [over_map]; rfl
  · rw [over_other t b n s l m h]

/-- Pairs of what is stripped, and not nothing. -/
def Pl (ps : Prs) : Prop := ∀ p ∈ ps, p.2.kind ≠ 0 ∧ T.over T.nil p.2 = p.2
theorem Pl.same {ps : Prs} (h : Pl ps) : overR [] ps = ps := by
  rw [overR_empty]
  induction ps with
  | nil => rfl
  | cons p r ih =>
    obtain ⟨h1, h2⟩ := h p (by simp)
    rw [List.filter_cons_of_pos (by simp [h1]), List.map_cons, h2, ih fun q hq => h q (by simp [hq])]

theorem nil_pairs : T.nil.pairs = [] := rfl
theorem over_nil_map (b : Bool) (n : Int) (s : ByteArray) (l : List T) (m : Prs) : T.over T.nil (.mk 5 b n s l m) = .mk 5 false 0 ⟨#[]⟩ [] (overR [] m) := by rw [over_map, nil_pairs]

theorem Pl.of_empty {m : Prs} (h : ∀ p ∈ m, T.over T.nil (T.over T.nil p.2) = T.over T.nil p.2) : Pl (overR [] m) := by
  intro q hq
  rw [overR_empty] at hq
  obtain ⟨p, hp, rfl⟩ := List.mem_map.1 hq
  obtain ⟨hp1, hp2⟩ := List.mem_filter.1 hp
  refine ⟨?_, h p hp1⟩
  show (T.over T.nil p.2).kind ≠ 0
  rw [over_kind]
  simpa using hp2

/-- What is stripped is stripped. -/
theorem over_idem (u : T) : T.over T.nil (T.over T.nil u) = T.over T.nil u := by
  induction u using T.ind with
  | h k b n s l m hl hm =>
    by_cases h : k = 5
    · subst h
      rw [over_nil_map, over_nil_map, (Pl.of_empty hm).same]
    · rw [over_other _ b n s l m h, over_other _ b n s l m h]

/-- The pairs of what is stripped. -/
theorem Pl.of_plain {c : T} (h : T.over T.nil c = c) : Pl c.pairs := by
  obtain ⟨k, b, n, s, l, m⟩ := c
  by_cases h5 : k = 5
  · subst h5
    rw [over_nil_map] at h
    have e : overR [] m = m := by injection h
    have : (T.mk 5 b n s l m).pairs = overR [] m := by rw [T.pairs, if_pos rfl, e]
    rw [this]
    exact Pl.of_empty fun p hp => over_idem p.2
  · have : (T.mk k b n s l m).pairs = [] := by rw [T.pairs, if_neg h5]
    rw [this]
    intro p hp; cases hp

theorem cutB_mem {key : ByteArray} : ∀ {ps : Prs} {q : ByteArray × T}, q ∈ cutB key ps → q ∈ ps
  | [], q, h => by cases h
  | p :: r, q, h => by
    rw [cutB] at h
    split at h
    · rcases List.mem_cons.1 h with rfl | h
      · simp
      · exact List.mem_cons_of_mem _ (cutB_mem h)
    · cases h
theorem cutA_mem {key : ByteArray} : ∀ {ps : Prs} {q : ByteArray × T}, q ∈ cutA key ps → q ∈ ps
  | [], q, h => by cases h
  | p :: r, q, h => by
    rw [cutA] at h
    split at h
    · exact List.mem_cons_of_mem _ (cutA_mem h)
    · split at h
      · exact List.mem_cons_of_mem _ h
      · exact h
theorem cutH_mem (key : ByteArray) : ∀ ps : Prs, cutH key ps = T.nil ∨ ∃ q ∈ ps, q.1 = key ∧ q.2 = cutH key ps
  | [] => .inl rfl
  | p :: r => by
    rw [cutH]
    split
    · rcases cutH_mem key r with h | ⟨q, hq, h⟩
      · exact .inl h
      · exact .inr ⟨q, List.mem_cons_of_mem _ hq, h⟩
    · split
      · rename_i h; exact .inr ⟨p, by simp, h, rfl⟩
      · exact .inl rfl
theorem Pl.here {key : ByteArray} {ps : Prs} (h : Pl ps) : Pl (cutH key ps).pairs := by
  rcases cutH_mem key ps with e | ⟨q, hq, _, e⟩
  · rw [e, nil_pairs]; intro p hp; cases hp
  · rw [← e]; exact Pl.of_plain (h q hq).2

theorem Pl.overR {m : Prs} (ih : ∀ p ∈ m, ∀ t : T, Pl t.pairs → T.over T.nil (T.over t p.2) = T.over t p.2) : ∀ {rest : Prs}, Pl rest → Pl (overR rest m) := by
  induction m with
  | nil => intro rest h; rw [overR_nil]; exact h
  | cons p r ihr =>
    intro rest h
    rw [overR_cons]
    have h1 : Pl (Go.Proofs.Ytnfmmgbghbaecaa.overR (cutA p.1 rest) r) := ihr (fun q hq => ih q (by simp [hq])) fun q hq => h q (cutA_mem hq)
    intro q hq
    rcases List.mem_append.1 hq with hq | hq
    · exact h q (cutB_mem hq)
    · rcases List.mem_append.1 hq with hq | hq
      · by_cases h0 : p.2.kind = 0
        · rw [if_pos h0] at hq; cases hq
        · rw [if_neg h0] at hq
          obtain rfl : q = (p.1, T.over (cutH p.1 rest) p.2) := by simpa using hq
          refine ⟨?_, ih p (by simp) _ h.here⟩
          show (T.over _ p.2).kind ≠ 0
          rw [over_kind]; exact h0
      · exact h1 q hq

/-- Over what is stripped nothing comes back. -/
theorem over_plain (u : T) : ∀ t : T, Pl t.pairs → T.over T.nil (T.over t u) = T.over t u := by
  induction u using T.ind with
  | h k b n s l m hl hm =>
    intro t ht
    by_cases h : k = 5
    · subst h
      rw [over_map, over_nil_map, (Pl.overR hm ht).same]
    · rw [over_other _ b n s l m h, over_other _ b n s l m h]

/-- An empty map is taken for nothing. -/
theorem over_pairs {t t' : T} (u : T) (h : t.pairs = t'.pairs) : T.over t u = T.over t' u := by
  obtain ⟨k, b, n, s, l, m⟩ := u
  by_cases h5 : k = 5
  · subst h5; rw [over_map, over_map, h]
  · rw [over_other _ b n s l m h5, over_other _ b n s l m h5]

end Go.Proofs.Ytnfmmgbghbaecaa

/-
  What is laid over others, where the keys rise: what stands under a key.
-/
set_option linter.unusedVariables false
set_option linter.unusedSimpArgs false
namespace Go.Proofs.Ytnfmmgbghbaecaa
open Go.RowKit

theorem bl_cons (x y : UInt8) (r q : List UInt8) : Op.bytesLess (x :: r) (y :: q) = true ↔ x.toNat < y.toNat ∨ (x.toNat = y.toNat ∧ Op.bytesLess r q = true) := by
  rw [Op.bytesLess]
  simp only [Bool.or_eq_true, Bool.and_eq_true, decide_eq_true_eq, beq_iff_eq, UInt8.lt_iff_toNat_lt, ← UInt8.toNat_inj]
theorem bl_trans : ∀ a b c : List UInt8, Op.bytesLess a b = true → Op.bytesLess b c = true → Op.bytesLess a c = true
  | _, [], _, h, _ => by rw [Op.bytesLess] at h; cases h
  | _, _ :: _, [], _, h => by rw [Op.bytesLess] at h; cases h
  | [], _ :: _, _ :: _, _, _ => by rw [Op.bytesLess]
  | x :: r, y :: q, z :: p, h1, h2 => by
    rw [bl_cons] at h1 h2 ⊢
    rcases h1 with h1 | ⟨h1, h1'⟩ <;> rcases h2 with h2 | ⟨h2, h2'⟩
    · left; omega
    · left; omega
    · left; omega
    · right; exact ⟨by omega, bl_trans r q p h1' h2'⟩
theorem bl_total : ∀ a b : List UInt8, Op.bytesLess a b = false → a ≠ b → Op.bytesLess b a = true
  | [], [], _, h => absurd rfl h
  | [], _ :: _, h, _ => by rw [Op.bytesLess] at h; cases h
  | _ :: _, [], _, _ => by rw [Op.bytesLess]
  | x :: r, y :: q, h, hn => by
    have h' : ¬ Op.bytesLess (x :: r) (y :: q) = true := by simp [h]
    rw [bl_cons] at h'
    rw [bl_cons]
    by_cases e : x.toNat = y.toNat
    · right
      refine ⟨e.symm, bl_total r q ?_ ?_⟩
      · cases hh : Op.bytesLess r q with
        | false => rfl
        | true => exact absurd (.inr ⟨e, hh⟩) h'
      · intro e2; exact hn (by rw [e2, UInt8.toNat_inj.1 e])
    · left; omega
theorem ltS_trans {a b c : ByteArray} (h : ltS a b = true) (h2 : ltS b c = true) : ltS a c = true := bl_trans _ _ _ h h2
theorem ltS_total {a b : ByteArray} (h : ltS a b = false) (hn : a ≠ b) : ltS b a = true := bl_total _ _ h fun e => hn (toList_inj e)
theorem ltS_asym {a b : ByteArray} (h : ltS a b = true) : ltS b a = false := by
  cases h2 : ltS b a with
  | false => rfl
  | true => have := ltS_trans h h2; rw [ltS_irr] at this; cases this
theorem ltS_nee {a b : ByteArray} (h : ltS a b = true) : a ≠ b := ltS_ne h bytesLess_irr

/-- The keys rise. -/
def Asc (ps : Prs) : Prop := ps.Pairwise fun p q => ltS p.1 q.1 = true

theorem asc_of_rise : ∀ (m : Prs), (∀ i (hi : i < m.length) (h0 : 0 < i), leS m[i].1 (m[i - 1]'(by omega)).1 = false) → Asc m := by
  intro m h
  have step : ∀ i (hi : i + 1 < m.length), ltS (m[i]'(by omega)).1 m[i + 1].1 = true := fun i hi => by
    have := h (i + 1) hi (by omega)
    rcases les_cases m[i + 1].1 (m[i + 1 - 1]'(by omega)).1 with ⟨h1, _⟩ | ⟨h1, _⟩ | ⟨_, h2, h3⟩
    · rw [h1] at this; cases this
    · rw [h1] at this; cases this
    · exact ltS_total h2 fun e => by rw [e] at h3; simp at h3
  unfold Asc
  rw [List.pairwise_iff_getElem]
  intro i j hi hj hij
  obtain ⟨d, rfl⟩ : ∃ d, j = i + 1 + d := ⟨j - (i + 1), by omega⟩
  clear hij
  induction d with
  | zero => exact step i (by omega)
  | succ d ih =>
    have h1 := ih (by omega)
    have h2 := step (i + 1 + d) (by omega)
    exact ltS_trans h1 h2

theorem Asc.head {p : ByteArray × T} {r : Prs} (h : Asc (p :: r)) : ∀ q ∈ r, ltS p.1 q.1 = true := (List.pairwise_cons.1 h).1
theorem Asc.tail {p : ByteArray × T} {r : Prs} (h : Asc (p :: r)) : Asc r := (List.pairwise_cons.1 h).2

theorem findR_none {key : ByteArray} {ps : Prs} (h : ∀ q ∈ ps, q.1 ≠ key) : findR key ps = none := by
  unfold findR
  rw [List.find?_eq_none.2 fun q hq => by simpa using h q hq]
  rfl
theorem findR_append (key : ByteArray) : ∀ xs ys : Prs, findR key (xs ++ ys) = match findR key xs with | some x => some x | none => findR key ys
  | [], ys => rfl
  | p :: r, ys => by
    by_cases h : p.1 = key
    · rw [List.cons_append, findR_here h, findR_here h]
    · rw [List.cons_append, findR_skip h, findR_skip h, findR_append key r ys]

theorem cutB_lt {key : ByteArray} : ∀ {ps : Prs} {q : ByteArray × T}, q ∈ cutB key ps → ltS q.1 key = true
  | [], q, h => by cases h
  | p :: r, q, h => by
    rw [cutB] at h
    split at h
    · rename_i hl
      rcases List.mem_cons.1 h with rfl | h
      · exact hl
      · exact cutB_lt h
    · cases h
theorem cutA_gt {key : ByteArray} : ∀ {ps : Prs} (ha : Asc ps) {q : ByteArray × T}, q ∈ cutA key ps → ltS key q.1 = true
  | [], _, q, h => by cases h
  | p :: r, ha, q, h => by
    rw [cutA] at h
    split at h
    · exact cutA_gt ha.tail h
    · rename_i hl
      have hl' : ltS p.1 key = false := by simpa using hl
      split at h
      · rename_i e
        rw [← e]; exact ha.head q h
      · rename_i e
        have hk := ltS_total hl' e
        rcases List.mem_cons.1 h with rfl | h
        · exact hk
        · exact ltS_trans hk (ha.head q h)
theorem cutA_asc {key : ByteArray} : ∀ {ps : Prs}, Asc ps → Asc (cutA key ps)
  | [], h => h
  | p :: r, h => by
    rw [cutA]
    split
    · exact cutA_asc h.tail
    · split
      · exact h.tail
      · exact h
theorem cutB_find {key k : ByteArray} (hk : ltS k key = true) : ∀ {ps : Prs}, Asc ps → findR k (cutB key ps) = findR k ps
  | [], _ => rfl
  | p :: r, h => by
    rw [cutB]
    split
    · by_cases e : p.1 = k
      · rw [findR_here e, findR_here e]
      · rw [findR_skip e, findR_skip e, cutB_find hk h.tail]
    · rename_i hl
      have hl' : ltS p.1 key = false := by simpa using hl
      rw [findR_none (ps := []) (fun q hq => by cases hq), findR_none]
      intro q hq e
      rcases List.mem_cons.1 hq with rfl | hq
      · rw [e, hk] at hl'; cases hl'
      · have := ltS_trans (h.head q hq) (by rw [e]; exact hk)
        rw [this] at hl'; cases hl'
theorem cutA_find {key k : ByteArray} (hk : ltS key k = true) : ∀ {ps : Prs}, Asc ps → findR k (cutA key ps) = findR k ps
  | [], _ => rfl
  | p :: r, h => by
    rw [cutA]
    split
    · rename_i hl
      rw [cutA_find hk h.tail, findR_skip (ltS_nee (ltS_trans hl hk))]
    · split
      · rename_i e
        rw [findR_skip (by rw [e]; exact ltS_nee hk)]
      · rfl
theorem cutH_find {key : ByteArray} : ∀ {ps : Prs}, Asc ps → cutH key ps = (findR key ps).getD T.nil
  | [], _ => rfl
  | p :: r, h => by
    rw [cutH]
    split
    · rename_i hl
      rw [findR_skip (ltS_nee hl), cutH_find h.tail]
    · rename_i hl
      have hl' : ltS p.1 key = false := by simpa using hl
      split
      · rename_i e; rw [findR_here e]; rfl
      · rename_i e
        have hk := ltS_total hl' e
        rw [findR_none]
        · rfl
        · intro q hq e2
          rcases List.mem_cons.1 hq with rfl | hq
          · exact e e2
          · exact ltS_nee (ltS_trans hk (h.head q hq)) e2.symm

/-- What stands under a key of what is laid over. -/
def overAt (was : Option T) : Option T → Option T
  | none => was
  | some x => if x.kind = 0 then none else some (T.over (was.getD T.nil) x)

theorem overR_find (key : ByteArray) : ∀ (m rest : Prs), Asc m → Asc rest → findR key (overR rest m) = overAt (findR key rest) (findR key m)
  | [], rest, _, _ => by rw [overR_nil]; rfl
  | p :: ps, rest, hm, hr => by
    have ih := overR_find key ps (cutA p.1 rest) hm.tail (cutA_asc hr)
    rw [overR_cons, findR_append, findR_append]
    by_cases e : p.1 = key
    · subst e
      rw [findR_none (ps := cutB p.1 rest) fun q hq => ltS_nee (cutB_lt hq), findR_here (p := p) rfl]
      have n1 : findR p.1 ps = none := findR_none fun q hq e => ltS_nee (hm.head q hq) e.symm
      have n2 : findR p.1 (cutA p.1 rest) = none := findR_none fun q hq e => ltS_nee (cutA_gt hr hq) e.symm
      by_cases h0 : p.2.kind = 0
      · rw [if_pos h0]
        show findR p.1 (overR (cutA p.1 rest) ps) = _
        rw [ih, n1, n2, overAt, overAt, if_pos h0]
      · rw [if_neg h0, show findR p.1 [(p.1, T.over (cutH p.1 rest) p.2)] = some (T.over (cutH p.1 rest) p.2) from findR_here (p := (p.1, T.over (cutH p.1 rest) p.2)) rfl, overAt, if_neg h0, cutH_find hr]
    · have mid : findR key (if p.2.kind = 0 then [] else [(p.1, T.over (cutH p.1 rest) p.2)]) = none := by
        refine findR_none fun q hq => ?_
        split at hq
        · cases hq
        · obtain rfl : q = (p.1, T.over (cutH p.1 rest) p.2) := by simpa using hq
          exact e
      rw [mid, findR_skip e]
      cases hl : ltS p.1 key with
      | true =>
        rw [findR_none (ps := cutB p.1 rest) fun q hq e2 => by
          have := cutB_lt hq
          rw [e2, ltS_asym hl] at this; cases this]
        show findR key (overR (cutA p.1 rest) ps) = _
        rw [ih, cutA_find hl hr]
      | false =>
        have hk := ltS_total hl e
        have n1 : findR key ps = none := findR_none fun q hq e2 => by
          have := ltS_trans hk (hm.head q hq)
          rw [e2, ltS_irr] at this; cases this
        have n2 : findR key (cutA p.1 rest) = none := findR_none fun q hq e2 => by
          have := ltS_trans hk (cutA_gt hr hq)
          rw [e2, ltS_irr] at this; cases this
        rw [cutB_find hk hr, n1]
        cases hf : findR key rest with
        | some x => rfl
        | none =>
          show findR key (overR (cutA p.1 rest) ps) = _
          rw [ih, n1, n2]

end Go.Proofs.Ytnfmmgbghbaecaa

/-
  Places in a value, as package path has them: pure.
-/
set_option linter.unusedVariables false
set_option linter.unusedSimpArgs false
namespace Go.Proofs.Ytnfmmgbghbaecaa
open Go.RowKit

/-- What stands at a path. -/
def atL : List ByteArray → T → Option T
  | [], t => some t
  | k :: r, t => (t.get k).bind (atL r)
/-- What stands under a key, or nothing. -/
def inL (k : ByteArray) (t : T) : T := (t.get k).getD T.nil
/-- A value with another one at a path. -/
def putL : List ByteArray → T → T → T
  | [], _, x => x
  | k :: r, t, x => t.put k (putL r (inL k t) x)
/-- What each step is taken in. -/
def wayL : List ByteArray → T → List T
  | [], _ => []
  | k :: r, t => t :: wayL r (inL k t)
/-- The value whose way that is. -/
def rbL : List T → List ByteArray → T → T
  | t :: ts, k :: ks, x => t.put k (rbL ts ks x)
  | _, _, x => x
/-- A value without what stands at a path that is there. -/
def dropL : List ByteArray → T → T
  | [], _ => T.nil
  | [k], t => t.drop k
  | k :: k2 :: r, t => t.put k (dropL (k2 :: r) (inL k t))
def dropAt (l : List ByteArray) (t : T) : T := if (atL l t).isSome then dropL l t else t
/-- How many steps stay when maps go that are empty then. -/
def pruneN (ws : List T) : Nat → Nat
  | 0 => 0
  | 1 => 1
  | n + 2 => if ((ws[n + 1]?).map fun t => t.map.length) = some 1 then pruneN ws (n + 1) else n + 2
def pruneAt (l : List ByteArray) (t : T) : T := if (atL l t).isSome then dropAt (l.take (pruneN (wayL l t) l.length)) t else t

theorem way_len : ∀ (l : List ByteArray) (t : T), (wayL l t).length = l.length
  | [], _ => rfl
  | k :: r, t => by rw [wayL, List.length_cons, way_len r, List.length_cons]
theorem rb_way : ∀ (l : List ByteArray) (t x : T), rbL (wayL l t) l x = putL l t x
  | [], _, _ => rfl
  | k :: r, t, x => by rw [wayL, rbL, rb_way r, putL]
theorem rb_nil (ks : List ByteArray) (x : T) : rbL [] ks x = x := by cases ks <;> rfl
theorem rb_step (ts : List T) (ks : List ByteArray) (x : T) (i : Nat) (h1 : i < ts.length) (h2 : i < ks.length) : rbL (ts.drop i) (ks.drop i) x = (ts[i]).put ks[i] (rbL (ts.drop (i + 1)) (ks.drop (i + 1)) x) := by
  rw [List.drop_eq_getElem_cons h1, List.drop_eq_getElem_cons h2, rbL]
theorem rb_end (ts : List T) (ks : List ByteArray) (x : T) : rbL (ts.drop ts.length) (ks.drop ts.length) x = x := by rw [List.drop_length, rb_nil]
theorem rb_drop : ∀ (l : List ByteArray) (t : T) (n : Nat) (hn : l.length = n + 1) (h : n < (wayL l t).length) (h2 : n < l.length), rbL ((wayL l t).take n) l ((wayL l t)[n].drop l[n]) = dropL l t
  | [], _, _, hn, _, _ => by cases hn
  | [k], t, n, hn, h, h2 => by
    obtain rfl : n = 0 := by simpa using hn.symm
    rfl
  | k :: k2 :: r, t, 0, hn, h, h2 => by simp at hn
  | k :: k2 :: r, t, n + 1, hn, h, h2 => by
    show rbL (t :: (wayL (k2 :: r) (inL k t)).take n) (k :: k2 :: r) _ = _
    rw [rbL, dropL]
    congr 1
    exact rb_drop (k2 :: r) (inL k t) n (by simpa using hn) (by rw [way_len]; simpa using h2) (by simpa using h2)

/-- The place of a key that was put. -/
theorem putR_here (key : ByteArray) (x y : T) : ∀ m : List (ByteArray × T), ∃ j : Nat, j < (putR key y m).length ∧ keyIx (putR key y m) key = j ∧ putR key x m = (putR key y m).set j (key, x) ∧ (putR key y m)[j]? = some (key, y)
  | [] => ⟨0, by simp [putR], by simp [keyIx, putR], by simp [putR], by simp [putR]⟩
  | p :: r => by
    rcases putR_cases p key with ⟨h, hn⟩ | h | ⟨h, hn⟩
    · obtain ⟨j, h1, h2, h3, h4⟩ := putR_here key x y r
      refine ⟨j + 1, by rw [putR_lt h]; simpa using h1, ?_, by rw [putR_lt h, putR_lt h, h3]; rfl, by rw [putR_lt h]; simpa using h4⟩
      rw [putR_lt h]
      unfold keyIx at h2 ⊢
      rw [List.findIdx?_cons]
      rw [decide_eq_false hn]
      cases hf : List.findIdx? (fun p => decide (p.1 = key)) (putR key y r) with
      | none => rw [hf] at h2; simp only at h2; omega
      | some i => rw [hf] at h2; simp only at h2; simp; omega
    · exact ⟨0, by rw [putR_eq h]; simp, by rw [putR_eq h]; unfold keyIx; rw [List.findIdx?_cons]; simp, by rw [putR_eq h, putR_eq h]; rfl, by rw [putR_eq h]; rfl⟩
    · exact ⟨0, by rw [putR_gt h hn]; simp, by rw [putR_gt h hn]; unfold keyIx; rw [List.findIdx?_cons]; simp, by rw [putR_gt h hn, putR_gt h hn]; rfl, by rw [putR_gt h hn]; rfl⟩

end Go.Proofs.Ytnfmmgbghbaecaa
