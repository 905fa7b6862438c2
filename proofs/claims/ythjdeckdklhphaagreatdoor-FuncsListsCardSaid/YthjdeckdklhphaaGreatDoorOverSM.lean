/-
  What is laid over others, where the keys rise: what stands under a key.
-/
import Derived.Test.YthjdeckdklhphaaGreatDoorGoodM
import Derived.Test.YthjdeckdklhphaaGreatDoorMap
set_option linter.unusedVariables false
set_option linter.unusedSimpArgs false
namespace Go.Proofs.YthjdeckdklhphaaGreatDoor
open Go.RowKit

theorem bl_cons (x y : UInt8) (r q : List UInt8) : Op.bytesLess (x :: r) (y :: q) = true ↔ x.toNat < y.toNat ∨ (x.toNat = y.toNat ∧ Op.bytesLess r q = true) := by
  rw [Op.bytesLess]
  simp only [Bool.or_eq_true, Bool.and_eq_true, decide_eq_true_eq, beq_iff_eq, UInt8.lt_iff_toNat_lt, ← UInt8.toNat_inj]
theorem bl_trans : ∀ a b c : List UInt8, Op.bytesLess a b = true → Op.bytesLess b c = true → Op.bytesLess a c = true
  | _, [], _, h, _ => by rw [Op.bytesLess] at h; cases h
  | _, _ :: _, [], _, h => by rw [Op.bytesLess] at h; cases h
  | [], _ :: _, _ :: _, _, _ => by rw [Op.bytesLess]
  | x :: r, y :: q, z :: p, h1, h2 => by
    rw [bl_cons] at h1 h2 ⊢
    rcases h1 with h1 | ⟨h1, h1'⟩ <;> rcases h2 with h2 | ⟨h2, h2'⟩
    · left; omega
    · left; omega
    · left; omega
    · right; exact ⟨by omega, bl_trans r q p h1' h2'⟩
theorem bl_total : ∀ a b : List UInt8, Op.bytesLess a b = false → a ≠ b → Op.bytesLess b a = true
  | [], [], _, h => absurd rfl h
  | [], _ :: _, h, _ => by rw [Op.bytesLess] at h; cases h
  | _ :: _, [], _, _ => by rw [Op.bytesLess]
  | x :: r, y :: q, h, hn => by
    have h' : ¬ Op.bytesLess (x :: r) (y :: q) = true := by simp [h]
    rw [bl_cons] at h'
    rw [bl_cons]
    by_cases e : x.toNat = y.toNat
    · right
      refine ⟨e.symm, bl_total r q ?_ ?_⟩
      · cases hh : Op.bytesLess r q with
        | false => rfl
        | true => exact absurd (.inr ⟨e, hh⟩) h'
      · intro e2; exact hn (by rw [e2, UInt8.toNat_inj.1 e])
    · left; omega
theorem ltS_trans {a b c : ByteArray} (h : ltS a b = true) (h2 : ltS b c = true) : ltS a c = true := bl_trans _ _ _ h h2
theorem ltS_total {a b : ByteArray} (h : ltS a b = false) (hn : a ≠ b) : ltS b a = true := bl_total _ _ h fun e => hn (toList_inj e)
theorem ltS_asym {a b : ByteArray} (h : ltS a b = true) : ltS b a = false := by
  cases h2 : ltS b a with
  | false => rfl
  | true => have := ltS_trans h h2; rw [ltS_irr] at this; cases this
theorem ltS_nee {a b : ByteArray} (h : ltS a b = true) : a ≠ b := ltS_ne h bytesLess_irr

/-- The keys rise. -/
def Asc (ps : Prs) : Prop := ps.Pairwise fun p q => ltS p.1 q.1 = true

theorem asc_of_rise : ∀ (m : Prs), (∀ i (hi : i < m.length) (h0 : 0 < i), leS m[i].1 (m[i - 1]'(by omega)).1 = false) → Asc m := by
  intro m h
  have step : ∀ i (hi : i + 1 < m.length), ltS (m[i]'(by omega)).1 m[i + 1].1 = true := fun i hi => by
    have := h (i + 1) hi (by omega)
    rcases les_cases m[i + 1].1 (m[i + 1 - 1]'(by omega)).1 with ⟨h1, _⟩ | ⟨h1, _⟩ | ⟨_, h2, h3⟩
    · rw [h1] at this; cases this
    · rw [h1] at this; cases this
    · exact ltS_total h2 fun e => by rw [e] at h3; simp at h3
  unfold Asc
  rw [List.pairwise_iff_getElem]
  intro i j hi hj hij
  obtain ⟨d, rfl⟩ : ∃ d, j = i + 1 + d := ⟨j - (i + 1), by omega⟩
  clear hij
  induction d with
  | zero => exact step i (by omega)
  | succ d ih =>
    have h1 := ih (by omega)
    have h2 := step (i + 1 + d) (by omega)
    exact ltS_trans h1 h2

theorem Asc.head {p : ByteArray × T} {r : Prs} (h : Asc (p :: r)) : ∀ q ∈ r, ltS p.1 q.1 = true := (List.pairwise_cons.1 h).1
theorem Asc.tail {p : ByteArray × T} {r : Prs} (h : Asc (p :: r)) : Asc r := (List.pairwise_cons.1 h).2

theorem findR_none {key : ByteArray} {ps : Prs} (h : ∀ q ∈ ps, q.1 ≠ key) : findR key ps = none := by
  unfold findR
  rw [List.find?_eq_none.2 fun q hq => by simpa using h q hq]
  rfl
theorem findR_append (key : ByteArray) : ∀ xs ys : Prs, findR key (xs ++ ys) = match findR key xs with | some x => some x | none => findR key ys
  | [], ys => rfl
  | p :: r, ys => by
    by_cases h : p.1 = key
    · rw [List.cons_append, findR_here h, findR_here h]
    · rw [List.cons_append, findR_skip h, findR_skip h, findR_append key r ys]

theorem cutB_lt {key : ByteArray} : ∀ {ps : Prs} {q : ByteArray × T}, q ∈ cutB key ps → ltS q.1 key = true
  | [], q, h => by cases h
  | p :: r, q, h => by
    rw [cutB] at h
    split at h
    · rename_i hl
      rcases List.mem_cons.1 h with rfl | h
      · exact hl
      · exact cutB_lt h
    · cases h
theorem cutA_gt {key : ByteArray} : ∀ {ps : Prs} (ha : Asc ps) {q : ByteArray × T}, q ∈ cutA key ps → ltS key q.1 = true
  | [], _, q, h => by cases h
  | p :: r, ha, q, h => by
    rw [cutA] at h
    split at h
    · exact cutA_gt ha.tail h
    · rename_i hl
      have hl' : ltS p.1 key = false := by simpa using hl
      split at h
      · rename_i e
        rw [← e]; exact ha.head q h
      · rename_i e
        have hk := ltS_total hl' e
        rcases List.mem_cons.1 h with rfl | h
        · exact hk
        · exact ltS_trans hk (ha.head q h)
theorem cutA_asc {key : ByteArray} : ∀ {ps : Prs}, Asc ps → Asc (cutA key ps)
  | [], h => h
  | p :: r, h => by
    rw [cutA]
    split
    · exact cutA_asc h.tail
    · split
      · exact h.tail
      · exact h
theorem cutB_find {key k : ByteArray} (hk : ltS k key = true) : ∀ {ps : Prs}, Asc ps → findR k (cutB key ps) = findR k ps
  | [], _ => rfl
  | p :: r, h => by
    rw [cutB]
    split
    · by_cases e : p.1 = k
      · rw [findR_here e, findR_here e]
      · rw [findR_skip e, findR_skip e, cutB_find hk h.tail]
    · rename_i hl
      have hl' : ltS p.1 key = false := by simpa using hl
      rw [findR_none (ps := []) (fun q hq => by cases hq), findR_none]
      intro q hq e
      rcases List.mem_cons.1 hq with rfl | hq
      · rw [e, hk] at hl'; cases hl'
      · have := ltS_trans (h.head q hq) (by rw [e]; exact hk)
        rw [this] at hl'; cases hl'
theorem cutA_find {key k : ByteArray} (hk : ltS key k = true) : ∀ {ps : Prs}, Asc ps → findR k (cutA key ps) = findR k ps
  | [], _ => rfl
  | p :: r, h => by
    rw [cutA]
    split
    · rename_i hl
      rw [cutA_find hk h.tail, findR_skip (ltS_nee (ltS_trans hl hk))]
    · split
      · rename_i e
        rw [findR_skip (by rw [e]; exact ltS_nee hk)]
      · rfl
theorem cutH_find {key : ByteArray} : ∀ {ps : Prs}, Asc ps → cutH key ps = (findR key ps).getD T.nil
  | [], _ => rfl
  | p :: r, h => by
    rw [cutH]
    split
    · rename_i hl
      rw [findR_skip (ltS_nee hl), cutH_find h.tail]
    · rename_i hl
      have hl' : ltS p.1 key = false := by simpa using hl
      split
      · rename_i e; rw [findR_here e]; rfl
      · rename_i e
        have hk := ltS_total hl' e
        rw [findR_none]
        · rfl
        · intro q hq e2
          rcases List.mem_cons.1 hq with rfl | hq
          · exact e e2
          · exact ltS_nee (ltS_trans hk (h.head q hq)) e2.symm

/-- What stands under a key of what is laid over. -/
def overAt (was : Option T) : Option T → Option T
  | none => was
  | some x => if x.kind = 0 then none else some (T.over (was.getD T.nil) x)

theorem overR_find (key : ByteArray) : ∀ (m rest : Prs), Asc m → Asc rest → findR key (overR rest m) = overAt (findR key rest) (findR key m)
  | [], rest, _, _ => by rw [overR_nil]; rfl
  | p :: ps, rest, hm, hr => by
    have ih := overR_find key ps (cutA p.1 rest) hm.tail (cutA_asc hr)
    rw [overR_cons, findR_append, findR_append]
    by_cases e : p.1 = key
    · subst e
      rw [findR_none (ps := cutB p.1 rest) fun q hq => ltS_nee (cutB_lt hq), findR_here (p := p) rfl]
      have n1 : findR p.1 ps = none := findR_none fun q hq e => ltS_nee (hm.head q hq) e.symm
      have n2 : findR p.1 (cutA p.1 rest) = none := findR_none fun q hq e => ltS_nee (cutA_gt hr hq) e.symm
      by_cases h0 : p.2.kind = 0
      · rw [if_pos h0]
        show findR p.1 (overR (cutA p.1 rest) ps) = _
        rw [ih, n1, n2, overAt, overAt, if_pos h0]
      · rw [if_neg h0, show findR p.1 [(p.1, T.over (cutH p.1 rest) p.2)] = some (T.over (cutH p.1 rest) p.2) from findR_here (p := (p.1, T.over (cutH p.1 rest) p.2)) rfl, overAt, if_neg h0, cutH_find hr]
    · have mid : findR key (if p.2.kind = 0 then [] else [(p.1, T.over (cutH p.1 rest) p.2)]) = none := by
        refine findR_none fun q hq => ?_
        split at hq
        · cases hq
        · obtain rfl : q = (p.1, T.over (cutH p.1 rest) p.2) := by simpa using hq
          exact e
      rw [mid, findR_skip e]
      cases hl : ltS p.1 key with
      | true =>
        rw [findR_none (ps := cutB p.1 rest) fun q hq e2 => by
          have := cutB_lt hq
          rw [e2, ltS_asym hl] at this; cases this]
        show findR key (overR (cutA p.1 rest) ps) = _
        rw [ih, cutA_find hl hr]
      | false =>
        have hk := ltS_total hl e
        have n1 : findR key ps = none := findR_none fun q hq e2 => by
          have := ltS_trans hk (hm.head q hq)
          rw [e2, ltS_irr] at this; cases this
        have n2 : findR key (cutA p.1 rest) = none := findR_none fun q hq e2 => by
          have := ltS_trans hk (cutA_gt hr hq)
          rw [e2, ltS_irr] at this; cases this
        rw [cutB_find hk hr, n1]
        cases hf : findR key rest with
        | some x => rfl
        | none =>
          show findR key (overR (cutA p.1 rest) ps) = _
          rw [ih, n1, n2]

end Go.Proofs.YthjdeckdklhphaaGreatDoor

/-
  Pairs with their places: the order that a stable sort makes of them, and what a merge of two runs makes, on the lists alone.
-/
set_option linter.unusedVariables false
set_option linter.unusedSimpArgs false
namespace Go.Proofs.YthjdeckdklhphaaGreatDoor
open Go.RowKit Go.Sort

/-- A pair with its place. -/
abbrev E := Q × Nat
def kE (x : E) : ByteArray := x.1.1
theorem cmpS_ltS (a b : ByteArray) : cmpS a b < 0 ↔ ltS a b = true := by
  unfold ltS
  rw [cmpS_less]
  unfold befV
  cases h : Op.bytesLess a.toList b.toList <;> cases h2 : Op.bytesLess b.toList a.toList <;> simp
def ltE (x y : E) : Prop := ltS (kE x) (kE y) = true ∨ (kE x = kE y ∧ x.2 < y.2)
theorem ltE_irr (x : E) : ¬ ltE x x := by
  rintro (h | ⟨_, h⟩)
  · rw [ltS_irr] at h; cases h
  · omega
theorem ltE_trans {x y z : E} (h : ltE x y) (h2 : ltE y z) : ltE x z := by
  rcases h with h | ⟨h, h3⟩
  · rcases h2 with h2 | ⟨h2, _⟩
    · exact .inl (ltS_trans h h2)
    · exact .inl (by rw [← h2]; exact h)
  · rcases h2 with h2 | ⟨h2, h4⟩
    · exact .inl (by rw [h]; exact h2)
    · exact .inr ⟨h.trans h2, by omega⟩
theorem ltE_total {x y : E} (h : x.2 ≠ y.2) (hn : ¬ ltE x y) : ltE y x := by
  by_cases e : kE x = kE y
  · exact .inr ⟨e.symm, by
      rcases Nat.lt_or_ge x.2 y.2 with h2 | h2
      · exact absurd (.inr ⟨e, h2⟩) hn
      · omega⟩
  · cases hl : ltS (kE x) (kE y) with
    | true => exact absurd (.inl hl) hn
    | false => exact .inl (ltS_total hl e)
/-- What the comparison tells of a later and an earlier one. -/
theorem cmp_later {x y : E} (h : y.2 < x.2) : cmpS (kE x) (kE y) < 0 ↔ ltE x y := by
  rw [cmpS_ltS]
  constructor
  · exact fun h2 => .inl h2
  · rintro (h2 | ⟨_, h2⟩)
    · exact h2
    · omega

def Srt (X : List E) : Prop := X.Pairwise ltE
theorem Srt.at {X : List E} (h : Srt X) {i j : Nat} (hi : i < X.length) (hj : j < X.length) (hij : i < j) : ltE X[i] X[j] := List.pairwise_iff_getElem.1 h i j hi hj hij
theorem Srt.app {A B : List E} (ha : Srt A) (hb : Srt B) (h : ∀ x ∈ A, ∀ y ∈ B, ltE x y) : Srt (A ++ B) := List.pairwise_append.2 ⟨ha, hb, h⟩
theorem Srt.left {A B : List E} (h : Srt (A ++ B)) : Srt A := (List.pairwise_append.1 h).1
theorem Srt.right {A B : List E} (h : Srt (A ++ B)) : Srt B := (List.pairwise_append.1 h).2.1
theorem Srt.cross {A B : List E} (h : Srt (A ++ B)) : ∀ x ∈ A, ∀ y ∈ B, ltE x y := (List.pairwise_append.1 h).2.2
theorem mem_take_at {X : List E} {i : Nat} {x : E} (h : x ∈ X.take i) : ∃ (k : Nat) (hk : k < X.length), k < i ∧ X[k] = x := by
  obtain ⟨k, hk, rfl⟩ := List.getElem_of_mem h
  rw [List.length_take] at hk
  exact ⟨k, by omega, by omega, by rw [List.getElem_take]⟩
theorem mem_drop_at {X : List E} {i : Nat} {x : E} (h : x ∈ X.drop i) : ∃ (k : Nat) (hk : k < X.length), i ≤ k ∧ X[k] = x := by
  obtain ⟨k, hk, rfl⟩ := List.getElem_of_mem h
  rw [List.length_drop] at hk
  exact ⟨i + k, by omega, by omega, by rw [List.getElem_drop]⟩

/-- One laid into a run that stands behind it. -/
theorem one_left {x : E} {Y : List E} {i : Nat} (hY : Srt Y) (h1 : ∀ k (hk : k < Y.length), k < i → ltE Y[k] x) (h2 : ∀ k (hk : k < Y.length), i ≤ k → ltE x Y[k]) : Srt (Y.take i ++ ([x] ++ Y.drop i)) ∧ (Y.take i ++ ([x] ++ Y.drop i)).Perm ([x] ++ Y) := by
  have hY' : Srt (Y.take i ++ Y.drop i) := by rw [List.take_append_drop]; exact hY
  refine ⟨hY'.left.app (Srt.app (show Srt [x] from List.pairwise_singleton _ _) hY'.right fun a ha b hb => ?_) fun a ha b hb => ?_, ?_⟩
  · obtain rfl : a = x := by simpa using ha
    obtain ⟨k, hk, h3, rfl⟩ := mem_drop_at hb
    exact h2 k hk h3
  · obtain ⟨k, hk, h3, rfl⟩ := mem_take_at ha
    rcases List.mem_append.1 hb with hb | hb
    · obtain rfl : b = x := by simpa using hb
      exact h1 k hk h3
    · exact hY'.cross _ ha _ hb
  · have h := List.perm_middle (a := x) (l₁ := Y.take i) (l₂ := Y.drop i)
    rw [List.take_append_drop] at h
    exact h
/-- One laid into a run that stands ahead of it. -/
theorem one_right {y : E} {X : List E} {i : Nat} (hX : Srt X) (h1 : ∀ k (hk : k < X.length), k < i → ltE X[k] y) (h2 : ∀ k (hk : k < X.length), i ≤ k → ltE y X[k]) : Srt (X.take i ++ ([y] ++ X.drop i)) ∧ (X.take i ++ ([y] ++ X.drop i)).Perm (X ++ [y]) := by
  obtain ⟨h3, h4⟩ := one_left hX h1 h2
  exact ⟨h3, h4.trans List.perm_append_comm⟩
/-- Two runs, each cut in two, their first parts merged and their second ones. -/
theorem two_parts {L1 L2 R1 R2 Z1 Z2 : List E} (hLR : ∀ l ∈ L1, ∀ r ∈ R2, ltE l r) (hRL : ∀ r ∈ R1, ∀ l ∈ L2, ltE r l) (hX : Srt (L1 ++ L2)) (hY : Srt (R1 ++ R2)) (p1 : Z1.Perm (L1 ++ R1)) (s1 : Srt Z1) (p2 : Z2.Perm (L2 ++ R2)) (s2 : Srt Z2) :
    Srt (Z1 ++ Z2) ∧ (Z1 ++ Z2).Perm ((L1 ++ L2) ++ (R1 ++ R2)) := by
  refine ⟨s1.app s2 fun x hx y hy => ?_, (p1.append p2).trans ?_⟩
  · rcases List.mem_append.1 (p1.mem_iff.1 hx) with hx | hx
    · rcases List.mem_append.1 (p2.mem_iff.1 hy) with hy | hy
      · exact hX.cross _ hx _ hy
      · exact hLR _ hx _ hy
    · rcases List.mem_append.1 (p2.mem_iff.1 hy) with hy | hy
      · exact hRL _ hx _ hy
      · exact hY.cross _ hx _ hy
  · rw [List.append_assoc, List.append_assoc]
    refine List.Perm.append_left _ ?_
    rw [← List.append_assoc, ← List.append_assoc]
    exact (List.perm_append_comm (l₁ := R1) (l₂ := L2)).append_right R2

/-- The search for the cut: c of the first run stands against h - 1 - c of the second one. -/
structure BS (X Y : List E) (h lo r0 s r : Nat) : Prop where
  le1 : lo ≤ s
  le2 : s ≤ r
  le3 : r ≤ r0
  below : ∀ c (hx : c < X.length) (hy : h - 1 - c < Y.length), lo ≤ c → c < s → ltE X[c] Y[h - 1 - c]
  above : ∀ c (hx : c < X.length) (hy : h - 1 - c < Y.length), r ≤ c → c < r0 → ltE Y[h - 1 - c] X[c]
theorem BS.start (X Y : List E) (h lo r0 : Nat) (hl : lo ≤ r0) : BS X Y h lo r0 lo r0 := ⟨Nat.le_refl _, hl, Nat.le_refl _, fun c _ _ h1 h2 => absurd h1 (by omega), fun c _ _ h1 h2 => absurd h1 (by omega)⟩
theorem BS.up {X Y : List E} {h lo r0 s r c : Nat} (hb : BS X Y h lo r0 s r) (hX : Srt X) (hY : Srt Y) (hs : s ≤ c) (hr : c < r) (h0 : r0 ≤ h) (hx : c < X.length) (hy : h - 1 - c < Y.length) (hc : ltE X[c] Y[h - 1 - c]) : BS X Y h lo r0 (c + 1) r :=
  ⟨by have := hb.le1; omega, by omega, hb.le3, fun c2 hx2 hy2 h1 h2 => by
    rcases Nat.lt_or_ge c2 c with h3 | h3
    · have e1 := hX.at hx2 hx h3
      have e2 := hY.at hy hy2 (by have := hb.le3; omega)
      exact ltE_trans e1 (ltE_trans hc e2)
    · obtain rfl : c2 = c := by omega
      exact hc, hb.above⟩
theorem BS.down {X Y : List E} {h lo r0 s r c : Nat} (hb : BS X Y h lo r0 s r) (hX : Srt X) (hY : Srt Y) (hs : s ≤ c) (hr : c < r) (h0 : r0 ≤ h) (hx : c < X.length) (hy : h - 1 - c < Y.length) (hc : ltE Y[h - 1 - c] X[c]) : BS X Y h lo r0 s c :=
  ⟨hb.le1, hs, by have := hb.le3; omega, hb.below, fun c2 hx2 hy2 h1 h2 => by
    rcases Nat.lt_or_ge c c2 with h3 | h3
    · have e1 := hX.at hx hx2 h3
      have e2 := hY.at hy2 hy (by omega)
      exact ltE_trans e2 (ltE_trans hc e1)
    · obtain rfl : c2 = c := by omega
      exact hc⟩
/-- Where the search begins and ends: so that what stands ahead of the cut is less than what stands behind it. -/
theorem BS.done {X Y : List E} {h lo r0 s : Nat} (hb : BS X Y h lo r0 s s) (hX : Srt X) (hY : Srt Y) (h1 : 2 * h ≤ X.length + Y.length) (h2 : X.length + Y.length ≤ 2 * h + 1)
    (hlo : (h < X.length ∧ lo + Y.length = h ∧ r0 = h) ∨ (X.length ≤ h ∧ lo = 0 ∧ r0 = X.length)) :
    (∀ l ∈ X.take s, ∀ r ∈ Y.drop (h - s), ltE l r) ∧ (∀ r ∈ Y.take (h - s), ∀ l ∈ X.drop s, ltE r l) := by
  have b1 := hb.le1
  have b3 := hb.le3
  constructor
  · intro l hl r hr
    obtain ⟨c, hc, hcs, rfl⟩ := mem_take_at hl
    obtain ⟨d, hd, hds, rfl⟩ := mem_drop_at hr
    have hlo2 : lo < s := by omega
    have hx : s - 1 < X.length := by omega
    have hy : h - 1 - (s - 1) < Y.length := by omega
    have e := hb.below (s - 1) hx hy (by omega) (by omega)
    have e1 : X[c] = X[s - 1] ∨ ltE X[c] X[s - 1] := by
      rcases Nat.lt_or_ge c (s - 1) with h3 | h3
      · exact .inr (hX.at hc hx h3)
      · obtain rfl : c = s - 1 := by omega
        exact .inl rfl
    have e2 : Y[d] = Y[h - 1 - (s - 1)] ∨ ltE Y[h - 1 - (s - 1)] Y[d] := by
      rcases Nat.lt_or_ge (h - 1 - (s - 1)) d with h3 | h3
      · exact .inr (hY.at hy hd h3)
      · obtain rfl : d = h - 1 - (s - 1) := by omega
        exact .inl rfl
    have e3 : ltE X[c] Y[h - 1 - (s - 1)] := by
      rcases e1 with e1 | e1
      · rw [e1]; exact e
      · exact ltE_trans e1 e
    rcases e2 with e2 | e2
    · rw [e2]; exact e3
    · exact ltE_trans e3 e2
  · intro r hr l hl
    obtain ⟨d, hd, hds, rfl⟩ := mem_take_at hr
    obtain ⟨c, hc, hcs, rfl⟩ := mem_drop_at hl
    have hr2 : s < r0 := by omega
    have hx : s < X.length := by omega
    have hy : h - 1 - s < Y.length := by omega
    have e := hb.above s hx hy (Nat.le_refl _) hr2
    have e1 : X[c] = X[s] ∨ ltE X[s] X[c] := by
      rcases Nat.lt_or_ge s c with h3 | h3
      · exact .inr (hX.at hx hc h3)
      · obtain rfl : c = s := by omega
        exact .inl rfl
    have e2 : Y[d] = Y[h - 1 - s] ∨ ltE Y[d] Y[h - 1 - s] := by
      rcases Nat.lt_or_ge d (h - 1 - s) with h3 | h3
      · exact .inr (hY.at hd hy h3)
      · obtain rfl : d = h - 1 - s := by omega
        exact .inl rfl
    have e3 : ltE Y[h - 1 - s] X[c] := by
      rcases e1 with e1 | e1
      · rw [e1]; exact e
      · exact ltE_trans e e1
    rcases e2 with e2 | e2
    · rw [e2]; exact e3
    · exact ltE_trans e2 e3

end Go.Proofs.YthjdeckdklhphaaGreatDoor
