/-
  A value with another one laid over it that has a leaf alone, at a path (pure).
-/
import Derived.Test.YtlniokpekcoodaaGreatDoorOverZM
import Derived.Test.YtlniokpekcoodaaGreatDoorGoodM
import Derived.Test.YtlniokpekcoodaaGreatDoorDropM
import Derived.Test.YtlniokpekcoodaaGreatDoorR2Get
import Derived.Test.YtlniokpekcoodaaGreatDoorWordW
set_option linter.unusedVariables false
set_option linter.unusedSimpArgs false
namespace Go.Proofs.YtlniokpekcoodaaGreatDoor
open Go.RowKit Go.Sort

/-- Pairs without one key. -/
def goneR (k : ByteArray) (ps : Prs) : Prs := cutB k ps ++ cutA k ps
theorem cut_put (k : ByteArray) (y : T) : ∀ ps : Prs, cutB k ps ++ ((k, y) :: cutA k ps) = putR k y ps
  | [] => rfl
  | p :: r => by
    rcases putR_cases p k with ⟨h, hn⟩ | h | ⟨h, hn⟩
    · rw [putR_lt h, cutB, if_pos h, cutA, if_pos h, List.cons_append, cut_put k y r]
    · subst h
      rw [putR_eq rfl, cutB, if_neg (by rw [ltS_irr]; simp), cutA, if_neg (by rw [ltS_irr]; simp), if_pos rfl]
      rfl
    · rw [putR_gt h hn, cutB, if_neg (by rw [h]; simp), cutA, if_neg (by rw [h]; simp), if_neg hn]
      rfl
theorem cutB_sub (k : ByteArray) : ∀ ps : Prs, (cutB k ps).Sublist ps
  | [] => by rw [cutB]; exact List.Sublist.slnil
  | p :: r => by
    rw [cutB]
    split
    · exact (cutB_sub k r).cons_cons p
    · exact List.nil_sublist _
theorem goneR_sub (k : ByteArray) : ∀ ps : Prs, (goneR k ps).Sublist ps
  | [] => by rw [goneR, cutB, cutA]; exact List.Sublist.slnil
  | p :: r => by
    rw [goneR, cutB, cutA]
    split
    · exact (goneR_sub k r).cons_cons p
    · split
      · exact (List.Sublist.refl r).cons p
      · exact List.Sublist.refl _
theorem goneR_asc {k : ByteArray} {ps : Prs} (h : Asc ps) : Asc (goneR k ps) := List.Pairwise.sublist (goneR_sub k ps) h
theorem putS_asc {k : ByteArray} {y : T} {ps : Prs} (h : Asc ps) : Asc (putR k y ps) := by
  rw [← cut_put]
  refine List.pairwise_append.2 ⟨List.Pairwise.sublist (cutB_sub k ps) h, List.pairwise_cons.2 ⟨fun q hq => cutA_gt h hq, cutA_asc h⟩, fun a ha b hb => ?_⟩
  rcases List.mem_cons.1 hb with rfl | hb
  · exact cutB_lt ha
  · exact ltS_trans (cutB_lt ha) (cutA_gt h hb)
theorem putS_mem {k : ByteArray} {y : T} {ps : Prs} {q : ByteArray × T} (h : q ∈ putR k y ps) : q = (k, y) ∨ q ∈ ps := by
  rw [← cut_put] at h
  rcases List.mem_append.1 h with h | h
  · exact .inr (cutB_mem h)
  · rcases List.mem_cons.1 h with h | h
    · exact .inl h
    · exact .inr (cutA_mem h)
theorem goneR_mem {k : ByteArray} {ps : Prs} {q : ByteArray × T} (h : q ∈ goneR k ps) : q ∈ ps := (goneR_sub k ps).subset h
theorem goneR_find {k : ByteArray} {ps : Prs} (h : Asc ps) : findR k (goneR k ps) = none := findR_none fun q hq => by
  rcases List.mem_append.1 hq with hq | hq
  · exact ltS_nee (cutB_lt hq)
  · exact fun e => ltS_nee (cutA_gt h hq) e.symm

/-- A leaf at a path, in maps of one pair. -/
def pathU : List ByteArray → T → T
  | [], x => x
  | k :: r, x => .mk 5 false 0 ⟨#[]⟩ [] [(k, pathU r x)]
theorem put_nil : ∀ (l : List ByteArray) (x : T), putL l T.nil x = pathU l x
  | [], x => rfl
  | k :: r, x => by
    rw [putL, pathU, show inL k T.nil = T.nil from rfl, put_nil r x]
    rfl
theorem put_five : ∀ (l : List ByteArray) (x : T), putL l T.none5 x = pathU l x
  | [], x => rfl
  | k :: r, x => by
    rw [putL, pathU, show inL k T.none5 = T.nil from rfl, put_nil r x]
    rfl
theorem five_kind (m : Prs) : (T.mk 5 false 0 ⟨#[]⟩ [] m).kind = 5 := rfl
/-- .. taken out. -/
def goneL : List ByteArray → T → T
  | [], _ => T.nil
  | [k], t => .mk 5 false 0 ⟨#[]⟩ [] (goneR k t.pairs)
  | k :: k2 :: r, t => t.put k (goneL (k2 :: r) (inL k t))

/-- What is known of the pairs of a value that may be. -/
theorem pairs_fine {t : T} (h : t.parts = 0) : Asc t.pairs ∧ ∀ q ∈ t.pairs, keyB q.1 = true ∧ q.2.parts = 0 := by
  obtain ⟨k, b, n, s, l, m⟩ := t
  have hp := parts_zero h
  rw [T.pairs]
  split
  · refine ⟨asc_of_rise m hp.rise, fun q hq => ⟨?_, hp.map q hq⟩⟩
    obtain ⟨i, hi, rfl⟩ := List.mem_iff_getElem.1 hq
    exact hp.keys i hi
  · exact ⟨List.Pairwise.nil, fun q hq => absurd hq (by simp)⟩
theorem nil_parts0 : T.nil.parts = 0 := by rw [T.nil, T.parts_mk]; kernel_rfl
theorem findS_mem {k : ByteArray} {u : T} : ∀ {ps : Prs}, findR k ps = some u → ∃ q ∈ ps, q.1 = k ∧ q.2 = u
  | [], h => by cases h
  | p :: r, h => by
    by_cases e : p.1 = k
    · rw [findR_here e] at h
      exact ⟨p, by simp, e, Option.some.inj h⟩
    · rw [findR_skip e] at h
      obtain ⟨q, hq, h2⟩ := findS_mem h
      exact ⟨q, by simp [hq], h2⟩
theorem in_find (k : ByteArray) (t : T) : inL k t = (findR k t.pairs).getD T.nil := rfl
theorem in_parts {t : T} (h : t.parts = 0) (k : ByteArray) : (inL k t).parts = 0 := by
  rw [in_find]
  cases e : findR k t.pairs with
  | none => exact nil_parts0
  | some u =>
    obtain ⟨q, hq, -, rfl⟩ := findS_mem e
    exact ((pairs_fine h).2 q hq).2
theorem map_parts {m : Prs} (ha : Asc m) (hk : ∀ q ∈ m, keyB q.1 = true ∧ q.2.parts = 0) : (T.mk 5 false 0 ⟨#[]⟩ [] m).parts = 0 := by
  rw [T.parts_mk]
  have h1 : kindBad 5 false 0 (⟨#[]⟩ : ByteArray).toList.isEmpty ([] : List T).length m.length = false := by
    unfold kindBad
    simp [Lib.toList_data]
  have h2 : textB ⟨#[]⟩ = true := by kernel_rfl
  rw [if_neg (by rw [h1]; simp), if_neg (by rw [h2]; simp), if_neg (by simp [firstNZ])]
  refine partsP_zero _ fun i hi => ?_
  have hi' : i < m.length := by simpa using hi
  have e1 : (m.map fun p => (p.1, p.2.parts)).getD i (⟨#[]⟩, 0) = (m[i].1, m[i].2.parts) := by
    rw [List.getD_eq_getElem?_getD, List.getElem?_map, List.getElem?_eq_getElem hi']
    rfl
  have hm := hk m[i] (List.getElem_mem hi')
  unfold codeAt
  rw [e1, if_neg (by rw [hm.1]; simp), hm.2]
  by_cases h0 : 0 < i
  · have e2 : (m.map fun p => (p.1, p.2.parts)).getD (i - 1) (⟨#[]⟩, 0) = (m[i - 1].1, m[i - 1].2.parts) := by
      rw [List.getD_eq_getElem?_getD, List.getElem?_map, List.getElem?_eq_getElem (by omega)]
      rfl
    have hlt : ltS m[i - 1].1 m[i].1 = true := List.pairwise_iff_getElem.1 ha (i - 1) i (by omega) hi' (by omega)
    have hle : leS m[i].1 m[i - 1].1 = false := by
      have h3 := ltS_asym hlt
      have h4 : m[i].1 ≠ m[i - 1].1 := fun e => ltS_nee hlt e.symm
      unfold ltS at h3
      unfold leS
      rw [h3, Bool.false_or, beq_eq_false_iff_ne]
      exact fun e => h4 (toList_inj e)
    rw [e2, hle]
    simp
  · simp [h0]
theorem putL_parts {x : T} (hx : x.parts = 0) : ∀ (l : List ByteArray) (t : T), (∀ k ∈ l, keyB k = true) → t.parts = 0 → (putL l t x).parts = 0
  | [], t, _, _ => hx
  | k :: r, t, hk, h => by
    have ih := putL_parts hx r (inL k t) (fun k hk' => hk k (by simp [hk'])) (in_parts h k)
    rw [putL, T.put]
    have hf := pairs_fine h
    refine map_parts (putS_asc hf.1) fun q hq => ?_
    rcases putS_mem hq with rfl | hq
    · exact ⟨hk k (by simp), ih⟩
    · exact hf.2 q hq
theorem goneL_parts : ∀ (l : List ByteArray) (t : T), (∀ k ∈ l, keyB k = true) → t.parts = 0 → (goneL l t).parts = 0
  | [], t, _, _ => nil_parts0
  | [k], t, hk, h => by
    have hf := pairs_fine h
    exact map_parts (goneR_asc hf.1) fun q hq => hf.2 q (goneR_mem hq)
  | k :: k2 :: r, t, hk, h => by
    have ih := goneL_parts (k2 :: r) (inL k t) (fun k hk' => hk k (by simp only [List.mem_cons] at hk' ⊢; exact .inr hk')) (in_parts h k)
    rw [goneL, T.put]
    have hf := pairs_fine h
    refine map_parts (putS_asc hf.1) fun q hq => ?_
    rcases putS_mem hq with rfl | hq
    · exact ⟨hk k (by simp), ih⟩
    · exact hf.2 q hq

/-- A leaf laid over. -/
theorem over_path {x : T} (hx : ∀ t, T.over t x = x) (hk : x.kind ≠ 0) : ∀ (l : List ByteArray) (t : T), t.parts = 0 → T.over t (pathU l x) = putL l t x
  | [], t, _ => hx t
  | k :: r, t, h => by
    have hu : (pathU r x).kind ≠ 0 := by
      cases r with
      | nil => exact hk
      | cons k2 r => rw [pathU, five_kind]; omega
    rw [pathU, over_map, overR_cons, overR_nil]
    dsimp only
    rw [if_neg hu, cutH_find (pairs_fine h).1, ← in_find, over_path hx hk r _ (in_parts h k), putL, T.put, ← cut_put]
    rfl
theorem over_gone : ∀ (l : List ByteArray) (t : T), l ≠ [] → t.parts = 0 → T.over t (pathU l T.nil) = goneL l t
  | [], t, h0, _ => absurd rfl h0
  | [k], t, _, h => by
    rw [pathU, over_map, overR_cons, overR_nil]
    dsimp only
    rw [if_pos (by rfl), goneL, goneR]
    rfl
  | k :: k2 :: r, t, _, h => by
    rw [pathU, over_map, overR_cons, overR_nil]
    dsimp only
    rw [if_neg (by rw [pathU, five_kind]; omega), cutH_find (pairs_fine h).1, ← in_find, over_gone (k2 :: r) _ (by simp) (in_parts h k), goneL, T.put, ← cut_put]
    rfl

/-- How deep they are. -/
theorem depth_map {m : Prs} {d : Nat} (h : ∀ q ∈ m, q.2.depth ≤ d) : (T.mk 5 false 0 ⟨#[]⟩ [] m).depth ≤ d + 1 := by
  rw [T.depth_mk]
  have : ∀ l : Prs, (∀ q ∈ l, q.2.depth ≤ d) → (l.map fun p => p.2.depth).foldr max 0 ≤ d := by
    intro l
    induction l with
    | nil => intro _; exact Nat.zero_le _
    | cons p r ih =>
      intro hl
      rw [List.map_cons, List.foldr_cons]
      exact Nat.max_le.2 ⟨hl p (by simp), ih fun q hq => hl q (by simp [hq])⟩
  have := this m h
  simp only [List.map_nil, List.foldr_nil]
  omega
theorem depth_pairs {t : T} {d : Nat} (h : t.depth ≤ d + 1) : ∀ q ∈ t.pairs, q.2.depth ≤ d := by
  obtain ⟨k, b, n, s, l, m⟩ := t
  rw [T.depth_mk] at h
  rw [T.pairs]
  split
  · intro q hq
    have : ∀ l : Prs, q ∈ l → q.2.depth ≤ (l.map fun p => p.2.depth).foldr max 0 := by
      intro l
      induction l with
      | nil => intro h; simp at h
      | cons p r ih =>
        intro hl
        rw [List.map_cons, List.foldr_cons]
        rcases List.mem_cons.1 hl with rfl | hl
        · exact Nat.le_max_left _ _
        · exact Nat.le_trans (ih hl) (Nat.le_max_right _ _)
    have := this m hq
    omega
  · intro q hq; simp at hq
theorem nil_depth : T.nil.depth = 1 := by simp [T.nil, T.depth_mk]
theorem depth_pos (t : T) : 1 ≤ t.depth := by
  obtain ⟨k, b, n, s, l, m⟩ := t
  rw [T.depth_mk]
  omega
theorem in_depth {t : T} {d : Nat} (h : t.depth ≤ d + 1) (h1 : 1 ≤ d) (k : ByteArray) : (inL k t).depth ≤ d := by
  rw [in_find]
  cases e : findR k t.pairs with
  | none => show T.nil.depth ≤ d; rw [nil_depth]; exact h1
  | some u =>
    obtain ⟨q, hq, -, rfl⟩ := findS_mem e
    exact depth_pairs h q hq
theorem putL_depth {x : T} : ∀ (l : List ByteArray) (t : T) (d : Nat), t.depth ≤ d → l.length + x.depth ≤ d → (putL l t x).depth ≤ d
  | [], t, d, _, h => by simpa [putL] using h
  | k :: r, t, d, ht, h => by
    have hx := depth_pos x
    rw [List.length_cons] at h
    obtain ⟨d, rfl⟩ : ∃ e, d = e + 1 := ⟨d - 1, by omega⟩
    rw [putL, T.put]
    refine depth_map fun q hq => ?_
    rcases putS_mem hq with rfl | hq
    · exact putL_depth r _ d (in_depth ht (by omega) k) (by omega)
    · exact depth_pairs ht q hq
theorem goneL_depth : ∀ (l : List ByteArray) (t : T) (d : Nat), t.depth ≤ d → l.length + 1 ≤ d → (goneL l t).depth ≤ d
  | [], t, d, _, h => by rw [goneL, nil_depth]; simpa using h
  | [k], t, d, ht, h => by
    obtain ⟨d, rfl⟩ : ∃ e, d = e + 1 := ⟨d - 1, by omega⟩
    exact depth_map fun q hq => depth_pairs ht q (goneR_mem hq)
  | k :: k2 :: r, t, d, ht, h => by
    simp only [List.length_cons] at h
    obtain ⟨d, rfl⟩ : ∃ e, d = e + 1 := ⟨d - 1, by omega⟩
    rw [goneL, T.put]
    refine depth_map fun q hq => ?_
    rcases putS_mem hq with rfl | hq
    · exact goneL_depth (k2 :: r) _ d (in_depth ht (by omega) k) (by simp only [List.length_cons]; omega)
    · exact depth_pairs ht q hq

/-- How great they are. -/
theorem cut_found {k : ByteArray} {u : T} : ∀ {ps : Prs}, Asc ps → findR k ps = some u → szR (cutB k ps) + u.size + szR (cutA k ps) ≤ szR ps
  | [], _, h => by cases h
  | p :: r, ha, h => by
    rcases putR_cases p k with ⟨h1, hn⟩ | h1 | ⟨h1, hn⟩
    · rw [findR_skip hn] at h
      have := cut_found ha.tail h
      rw [cutB, if_pos h1, cutA, if_pos h1, szR_cons, szR_cons]
      omega
    · rw [findR_here h1] at h
      cases h
      rw [cutB, if_neg (by rw [h1, ltS_irr]; simp), cutA, if_neg (by rw [h1, ltS_irr]; simp), if_pos h1, szR_nil, szR_cons]
      omega
    · exfalso
      rw [findR_skip hn] at h
      obtain ⟨q, hq, he, -⟩ := findS_mem h
      have h2 := ha.head q hq
      rw [he, h1] at h2
      cases h2
theorem putS_size (k : ByteArray) (y : T) (ps : Prs) : szR (putR k y ps) = szR (cutB k ps) + y.size + szR (cutA k ps) := by
  rw [← cut_put, szR_append, szR_cons]
  show szR (cutB k ps) + (y.size + szR (cutA k ps)) = _
  omega
theorem five_size (m : Prs) : (T.mk 5 false 0 ⟨#[]⟩ [] m).size = 1 + szR m := by rw [T.size_mk]; rfl
theorem putL_at_size {x : T} : ∀ (l : List ByteArray) (t a : T), t.parts = 0 → atL l t = some a → (putL l t x).size + a.size ≤ t.size + x.size
  | [], t, a, _, h => by
    cases h
    rw [putL]
    omega
  | k :: r, t, a, hp, h => by
    rw [atL] at h
    cases e : t.get k with
    | none => rw [e] at h; cases h
    | some u =>
      rw [e] at h
      have hf : findR k t.pairs = some u := e
      have hi : inL k t = u := by rw [in_find, hf]; rfl
      have ih := putL_at_size (x := x) r u a (by rw [← hi]; exact in_parts hp k) h
      have h1 := cut_found (pairs_fine hp).1 hf
      have h2 := pairs_sz t
      rw [putL, T.put, five_size, putS_size, hi]
      omega
theorem goneL_size : ∀ (l : List ByteArray) (t a : T), t.parts = 0 → atL l t = some a → (goneL l t).size ≤ t.size
  | [], t, a, _, h => by
    rw [goneL]
    have : T.nil.size = 1 := nil_size
    have h2 := pairs_sz t
    omega
  | [k], t, a, hp, h => by
    have h1 := cut_sz k t.pairs
    have h2 := pairs_sz t
    have h3 : 1 ≤ (cutH k t.pairs).size := by have := pairs_sz (cutH k t.pairs); omega
    rw [goneL, five_size, goneR, szR_append]
    omega
  | k :: k2 :: r, t, a, hp, h => by
    rw [atL] at h
    cases e : t.get k with
    | none => rw [e] at h; cases h
    | some u =>
      rw [e] at h
      have hf : findR k t.pairs = some u := e
      have hi : inL k t = u := by rw [in_find, hf]; rfl
      have ih := goneL_size (k2 :: r) u a (by rw [← hi]; exact in_parts hp k) h
      have h1 := cut_found (pairs_fine hp).1 hf
      have h2 := pairs_sz t
      rw [goneL, T.put, five_size, putS_size, hi]
      omega

/-- What stands at the path behind it. -/
theorem at_putL : ∀ (l : List ByteArray) (t x : T), atL l (putL l t x) = some x
  | [], t, x => rfl
  | k :: r, t, x => by rw [putL, atL, get_put]; exact at_putL r _ x
theorem getQ_putL : ∀ (l : List ByteArray) (t x : T), getQ l (putL l t x) = some x
  | [], t, x => rfl
  | k :: r, t, x => by
    rw [putL, T.put, getQ]
    show (findR k (putR k _ t.pairs)).bind _ = _
    rw [putR_find]
    exact getQ_putL r _ x
theorem getQ_goneL : ∀ (l : List ByteArray) (t : T), l ≠ [] → t.parts = 0 → getQ l (goneL l t) = none
  | [], t, h, _ => absurd rfl h
  | [k], t, _, h => by
    rw [goneL, getQ]
    show (findR k (goneR k t.pairs)).bind _ = _
    rw [goneR_find (pairs_fine h).1]
    rfl
  | k :: k2 :: r, t, _, h => by
    rw [goneL, T.put, getQ]
    show (findR k (putR k _ t.pairs)).bind _ = _
    rw [putR_find]
    exact getQ_goneL (k2 :: r) _ (by simp) (in_parts h k)

/-- A word may be a key. -/
theorem word_key {k : ByteArray} (h : wordL k.data.toList = true) : keyB k = true := by
  unfold wordL at h
  simp only [Bool.and_eq_true, decide_eq_true_eq] at h
  unfold keyB
  rw [Lib.size_eq]
  simp only [Bool.and_eq_true, decide_eq_true_eq]
  refine ⟨⟨by omega, by omega⟩, ?_⟩
  rw [List.all_eq_true] at h ⊢
  intro c hc
  have := h.1.1 c hc
  unfold inWord at this
  unfold badKey
  simp only [Bool.or_eq_true, Bool.and_eq_true, decide_eq_true_eq, beq_iff_eq, UInt8.le_iff_toNat_le] at this
  have e1 : (97 : UInt8).toNat = 97 := rfl
  have e2 : (122 : UInt8).toNat = 122 := rfl
  have e3 : (65 : UInt8).toNat = 65 := rfl
  have e4 : (90 : UInt8).toNat = 90 := rfl
  have e5 : (48 : UInt8).toNat = 48 := rfl
  have e6 : (57 : UInt8).toNat = 57 := rfl
  simp only [Bool.not_eq_true', Bool.or_eq_false_iff, decide_eq_false_iff_not]
  rcases this with (((h | h) | h) | h) | h
  · omega
  · omega
  · omega
  · subst h; decide
  · subst h; decide

end Go.Proofs.YtlniokpekcoodaaGreatDoor
