/-
  Package slices' Equal of texts; package path's Begins; the law's Steps and awake.
-/
import Derived.Test.YtfmlhdkodnbfaaaPathQ
import Derived.Test.YtfmlhdkodnbfaaaText
import Derived.Test.YtfmlhdkodnbfaaaRPutPM
import Derived.Test.YtfmlhdkodnbfaaaGood
set_option linter.unusedVariables false
set_option linter.unusedSimpArgs false
namespace Go.Proofs.Ytfmlhdkodnbfaaa
open Go.RowKit

/-- Are these the same texts? -/
def sameS (xs ys : List ByteArray) : Bool := decide (xs = ys)
theorem same_up {xs ys : List ByteArray} (hl : xs.length = ys.length) : sameS xs ys = true ↔ ∀ i (h : i < xs.length) (h2 : i < ys.length), xs[i] = ys[i] := by
  rw [sameS, decide_eq_true_eq]
  exact ⟨fun e i h h2 => by subst e; rfl, fun h => List.ext_getElem hl h⟩

/-- Does a path begin as another one does? -/
def beginsB (ks ms : List ByteArray) : Bool := decide (ms.length ≤ ks.length) && sameS (ks.take ms.length) ms

/-- May these be steps? -/
def stepsB (ks : List ByteArray) : Bool := ks.all keyB && decide (ks.length ≤ 14)

end Go.Proofs.Ytfmlhdkodnbfaaa

/-
  Places in a value: what is put is there, what is dropped or pruned is gone, all else stays: pure.
-/
set_option linter.unusedVariables false
set_option linter.unusedSimpArgs false
namespace Go.Proofs.Ytfmlhdkodnbfaaa
open Go.RowKit

theorem nil_get (k : ByteArray) : T.nil.get k = none := rfl
theorem at_nil {l : List ByteArray} (h : l ≠ []) : atL l T.nil = none := by
  cases l with
  | nil => exact absurd rfl h
  | cons k r => rw [atL, nil_get]; rfl
theorem at_in {k : ByteArray} {r : List ByteArray} (t : T) (h : r ≠ []) : atL (k :: r) t = atL r (inL k t) := by
  rw [atL, inL]
  cases t.get k with
  | none => rw [Option.getD_none, at_nil h]; rfl
  | some u => rfl
theorem at_put : ∀ (l : List ByteArray) (t x : T), atL l (putL l t x) = some x
  | [], _, _ => rfl
  | k :: r, t, x => by
    rw [putL, atL, get_put]
    exact at_put r (inL k t) x
theorem at_append : ∀ (a b : List ByteArray) (t : T), atL (a ++ b) t = (atL a t).bind (atL b)
  | [], _, _ => rfl
  | k :: a, b, t => by
    rw [List.cons_append, atL, atL]
    cases t.get k with
    | none => rfl
    | some u => exact at_append a b u
theorem at_dropL : ∀ (l : List ByteArray) (t : T), l ≠ [] → atL l (dropL l t) = none
  | [], _, h => absurd rfl h
  | [k], t, _ => by rw [dropL, atL, get_drop]; rfl
  | k :: k2 :: r, t, _ => by
    rw [dropL, atL, get_put]
    exact at_dropL (k2 :: r) (inL k t) (by simp)
theorem at_dropAt (l : List ByteArray) (t : T) (h : l ≠ []) : atL l (dropAt l t) = none := by
  rw [dropAt]
  by_cases hs : (atL l t).isSome = true
  · rw [if_pos hs]; exact at_dropL l t h
  · rw [if_neg hs]
    cases ha : atL l t with
    | none => rfl
    | some u => rw [ha] at hs; exact absurd rfl hs
theorem pruneN_le (ws : List T) : ∀ n, pruneN ws n ≤ n
  | 0 => Nat.le_refl _
  | 1 => Nat.le_refl _
  | n + 2 => by
    rw [pruneN]
    split
    · have := pruneN_le ws (n + 1); omega
    · exact Nat.le_refl _
theorem pruneN_pos (ws : List T) : ∀ n, 1 ≤ n → 1 ≤ pruneN ws n
  | 0, h => by omega
  | 1, _ => Nat.le_refl _
  | n + 2, _ => by
    rw [pruneN]
    split
    · exact pruneN_pos ws (n + 1) (by omega)
    · omega
theorem at_pruneAt (l : List ByteArray) (t : T) (h : l ≠ []) : atL l (pruneAt l t) = none := by
  rw [pruneAt]
  by_cases hs : (atL l t).isSome = true
  · rw [if_pos hs]
    have hl : 1 ≤ l.length := by cases l with | nil => exact absurd rfl h | cons _ _ => simp
    have h1 := pruneN_pos (wayL l t) l.length hl
    have h2 := pruneN_le (wayL l t) l.length
    generalize pruneN (wayL l t) l.length = n at h1 h2
    have hne : l.take n ≠ [] := by
      intro e
      have h3 : min n l.length = 0 := by rw [← List.length_take, e]; rfl
      omega
    have := at_append (l.take n) (l.drop n) (dropAt (l.take n) t)
    rw [List.take_append_drop, at_dropAt _ _ hne] at this
    exact this
  · rw [if_neg hs]
    cases ha : atL l t with
    | none => rfl
    | some u => rw [ha] at hs; exact absurd rfl hs

theorem begins_nil (l : List ByteArray) : beginsB l [] = true := by simp [beginsB, sameS]
theorem begins_cons (k : ByteArray) (l m : List ByteArray) : beginsB (k :: l) (k :: m) = beginsB l m := by
  unfold beginsB sameS
  simp
theorem at_put_other : ∀ (l m : List ByteArray) (t x : T), beginsB l m = false → beginsB m l = false → atL m (putL l t x) = atL m t
  | [], m, _, _, _, h => by rw [begins_nil] at h; cases h
  | _ :: _, [], _, _, h, _ => by rw [begins_nil] at h; cases h
  | k :: l, k' :: m, t, x, h1, h2 => by
    by_cases hk : k' = k
    · subst hk
      rw [begins_cons] at h1 h2
      have hm : m ≠ [] := fun e => by rw [e, begins_nil] at h1; cases h1
      rw [putL, atL, get_put]
      show atL m (putL l (inL k' t) x) = _
      rw [at_put_other l m (inL k' t) x h1 h2, at_in t hm]
    · rw [putL, atL, get_put_other _ _ _ _ hk, atL]

end Go.Proofs.Ytfmlhdkodnbfaaa

/-
  The reference's places, and what they are for a value that may be: pure.
-/
set_option linter.unusedVariables false
set_option linter.unusedSimpArgs false
namespace Go.Proofs.Ytfmlhdkodnbfaaa
open Go.RowKit Go.Sort

/-- The reference's Drop. -/
def rdropT (key : ByteArray) : T → T
  | .mk k b n s l m => .mk k b n s l (dropR key m)
/-- The reference's Put at a path. -/
def putQ : List ByteArray → T → T → T
  | [], _, x => x
  | k :: r, t, x => .mk 5 false 0 ⟨#[]⟩ [] (rputG k (putQ r ((findR k t.map).getD T.nil) x) false (if t.kind = 5 then t.map else []))
/-- The reference's Drop at a path. -/
def dropQ : List ByteArray → T → T
  | [], _ => T.nil
  | k :: r, t => if (findR k t.map).isSome then (if r = [] then rdropT k t else .mk 5 false 0 ⟨#[]⟩ [] (rputG k (dropQ r ((findR k t.map).getD T.nil)) false t.map)) else t
/-- The reference's Prune. -/
def pruneQ : List ByteArray → T → T
  | [], _ => T.nil
  | k :: r, t => if (getQ (k :: r) t).isSome then (if r = [] then rdropT k t else if (pruneQ r ((findR k t.map).getD T.nil)).map.length = 0 then rdropT k t else .mk 5 false 0 ⟨#[]⟩ [] (rputG k (pruneQ r ((findR k t.map).getD T.nil)) false t.map)) else t

/-- What a value that may be has. -/
structure Fine (t : T) : Prop where
  pairs : t.map = t.pairs
  asc : Asc t.pairs
  each : ∀ q ∈ t.pairs, q.2.parts = 0
  five : t.pairs ≠ [] → t = .mk 5 false 0 ⟨#[]⟩ [] t.pairs
  drop : ∀ key, rdropT key t = t.drop key
theorem fine_of {t : T} (h : t.parts = 0) : Fine t := by
  obtain ⟨k, b, n, s, l, m⟩ := t
  have hp := parts_zero h
  obtain ⟨-, -, hb, hn, hs, hl, hm⟩ := kind_parts hp.kind
  by_cases hk : k = 5
  · subst hk
    have e : (T.mk 5 b n s l m).pairs = m := by rw [T.pairs, if_pos rfl]
    have e2 : T.mk 5 b n s l m = .mk 5 false 0 ⟨#[]⟩ [] m := by rw [hb (by decide), hn (by decide), hs (by decide), hl (by decide)]
    refine ⟨by rw [e]; rfl, by rw [e]; exact asc_of_rise m hp.rise, by rw [e]; exact hp.map, fun _ => by rw [e]; exact e2, fun key => ?_⟩
    rw [e2]
    show T.mk 5 false 0 ⟨#[]⟩ [] (dropR key m) = if (5 : Int) = 5 then _ else _
    rw [if_pos rfl]
    rfl
  · have e : (T.mk k b n s l m).pairs = [] := by rw [T.pairs, if_neg hk]
    have em := hm hk
    subst em
    refine ⟨by rw [e]; rfl, by rw [e]; exact List.Pairwise.nil, by rw [e]; simp, fun h => absurd e h, fun key => ?_⟩
    show T.mk k b n s l (dropR key []) = T.drop _ key
    unfold T.drop
    rw [if_neg (show ¬ (T.mk k b n s l []).kind = 5 from hk)]
    rfl
theorem find_mem {key : ByteArray} {m : Prs} {u : T} (h : findR key m = some u) : (key, u) ∈ m := by
  unfold findR at h
  cases hf : m.find? fun p => decide (p.1 = key) with
  | none => rw [hf] at h; cases h
  | some p =>
    rw [hf] at h
    have h1 := List.find?_some hf
    have h2 := List.mem_of_find?_eq_some hf
    obtain ⟨a, v⟩ := p
    have e1 : v = u := by simpa using h
    have e2 : a = key := by simpa using h1
    rw [e1, e2] at h2
    exact h2
theorem nil_parts : T.nil.parts = 0 := by
  rw [T.nil, T.parts_mk]
  simp [kindBad, textB, firstNZ, partsP]
  exact (by decide : (0 : Nat) ≤ 65536)
theorem Fine.inner {t : T} (h : Fine t) (key : ByteArray) : ((findR key t.map).getD T.nil).parts = 0 := by
  rw [h.pairs]
  cases hf : findR key t.pairs with
  | none => exact nil_parts
  | some u => exact h.each _ (find_mem hf)
theorem Fine.inL {t : T} (h : Fine t) (key : ByteArray) : (findR key t.map).getD T.nil = inL key t := by rw [h.pairs]; rfl
theorem Fine.put {t : T} (h : Fine t) (key : ByteArray) (x : T) : T.mk 5 false 0 ⟨#[]⟩ [] (rputG key x false t.map) = t.put key x := by
  rw [h.pairs, rputG_put key x h.asc]
  rfl
theorem Fine.putK {t : T} (h : Fine t) (key : ByteArray) (x : T) : T.mk 5 false 0 ⟨#[]⟩ [] (rputG key x false (if t.kind = 5 then t.map else [])) = t.put key x := by
  have e : (if t.kind = 5 then t.map else []) = t.pairs := by
    obtain ⟨k, b, n, s, l, m⟩ := t
    rfl
  rw [e, rputG_put key x h.asc]
  rfl
theorem putR_same {key : ByteArray} {u : T} : ∀ {m : Prs}, Asc m → findR key m = some u → putR key u m = m
  | [], _, h => by cases h
  | p :: r, ha, h => by
    rcases putR_cases p key with ⟨hl, hn⟩ | he | ⟨hl, hn⟩
    · rw [findR_skip hn] at h
      rw [putR_lt hl, putR_same ha.tail h]
    · rw [findR_here he] at h
      rw [putR_eq he]
      obtain ⟨a, v⟩ := p
      have e : v = u := by simpa using h
      have e2 : a = key := he
      rw [e, e2]
    · rw [findR_skip hn] at h
      have h1 := ha.head _ (find_mem h)
      have h2 := ltS_trans (ltS_total hl hn) h1
      rw [ltS_irr] at h2
      cases h2
theorem Fine.same {t u : T} (h : Fine t) {key : ByteArray} (hg : findR key t.map = some u) : t.put key u = t := by
  rw [h.pairs] at hg
  have hne : t.pairs ≠ [] := fun e => by rw [e] at hg; cases hg
  have e := h.five hne
  rw [T.put, putR_same h.asc hg]
  exact e.symm

theorem getQ_at : ∀ (l : List ByteArray) (t : T), t.parts = 0 → getQ l t = atL l t
  | [], _, _ => rfl
  | k :: r, t, h => by
    have hf := fine_of h
    rw [getQ, atL, hf.pairs, T.get_find]
    cases hg : findR k t.pairs with
    | none => rfl
    | some u => exact getQ_at r u (hf.each _ (find_mem hg))
theorem putQ_put : ∀ (l : List ByteArray) (t x : T), t.parts = 0 → putQ l t x = putL l t x
  | [], _, _, _ => rfl
  | k :: r, t, x, h => by
    have hf := fine_of h
    rw [putQ, putL, hf.putK, putQ_put r _ x (hf.inner k), hf.inL]
theorem at_cons {k : ByteArray} {r : List ByteArray} {t u : T} (hf : Fine t) (hg : findR k t.map = some u) : atL (k :: r) t = atL r u := by
  rw [hf.pairs] at hg
  rw [atL, T.get_find, hg]
  rfl
theorem dropQ_drop : ∀ (l : List ByteArray) (t : T), t.parts = 0 → dropQ l t = dropAt l t
  | [], _, _ => rfl
  | k :: r, t, h => by
    have hf := fine_of h
    rw [dropQ]
    cases hg : findR k t.map with
    | none =>
      have e : atL (k :: r) t = none := by
        rw [hf.pairs] at hg
        rw [atL, T.get_find, hg]
        rfl
      rw [if_neg (by simp), dropAt, e, if_neg (by simp)]
    | some u =>
      rw [if_pos (show (some u).isSome = true from rfl)]
      have e := at_cons (r := r) hf hg
      cases r with
      | nil =>
        rw [if_pos rfl, dropAt, e, if_pos (show (atL [] u).isSome = true from rfl), hf.drop]
        rfl
      | cons k2 r =>
        rw [if_neg (by simp), hf.put]
        show t.put k (dropQ (k2 :: r) u) = _
        rw [dropQ_drop (k2 :: r) u (hf.each _ (by rw [hf.pairs] at hg; exact find_mem hg))]
        have ei : inL k t = u := by rw [← hf.inL, hg]; rfl
        rw [dropAt, dropAt, e]
        cases ha : atL (k2 :: r) u with
        | none => rw [if_neg (by simp), if_neg (by simp), hf.same hg]
        | some y => rw [if_pos (show (some y).isSome = true from rfl), if_pos (show (some y).isSome = true from rfl), dropL, ei]

theorem pruneN_cons (t : T) (ws : List T) : ∀ n, 1 ≤ n → pruneN (t :: ws) (n + 1) = if pruneN ws n = 1 ∧ (ws[0]?.map fun t => t.map.length) = some 1 then 1 else pruneN ws n + 1
  | 0, h => by omega
  | 1, _ => by
    rw [pruneN]
    show (if ((ws[0]?).map fun t => t.map.length) = some 1 then pruneN (t :: ws) 1 else 2) = _
    by_cases h : ((ws[0]?).map fun t => t.map.length) = some 1
    · rw [if_pos h, if_pos ⟨rfl, h⟩, pruneN]
    · rw [if_neg h, if_neg (fun q => h q.2)]
  | n + 2, _ => by
    rw [pruneN]
    show (if ((ws[n + 1]?).map fun t => t.map.length) = some 1 then pruneN (t :: ws) (n + 1 + 1) else n + 3) = _
    by_cases h : ((ws[n + 1]?).map fun t => t.map.length) = some 1
    · rw [if_pos h, pruneN_cons t ws (n + 1) (by omega)]
      have e : pruneN ws (n + 2) = pruneN ws (n + 1) := by rw [pruneN, if_pos h]
      rw [e]
    · have e : pruneN ws (n + 2) = n + 2 := by rw [pruneN, if_neg h]
      rw [if_neg h, e, if_neg (by omega)]
/-- A value without what stands at a path, and without the maps that are empty then. -/
def pruneL (l : List ByteArray) (t : T) : T := dropL (l.take (pruneN (wayL l t) l.length)) t
theorem putR_ne (key : ByteArray) (x : T) : ∀ m : Prs, (putR key x m).length ≠ 0
  | [] => by simp [putR]
  | p :: r => by
    rcases putR_cases p key with ⟨h, hn⟩ | h | ⟨h, hn⟩
    · rw [putR_lt h]; simp
    · rw [putR_eq h]; simp
    · rw [putR_gt h hn]; simp
theorem put_ne (t : T) (key : ByteArray) (x : T) : (t.put key x).map.length ≠ 0 := putR_ne key x _
theorem dropR_length {key : ByteArray} {u : T} : ∀ {m : Prs}, Asc m → findR key m = some u → (dropR key m).length + 1 = m.length
  | [], _, h => by cases h
  | p :: r, ha, h => by
    by_cases he : p.1 = key
    · have : dropR key r = r := by
        unfold dropR
        rw [List.filter_eq_self]
        intro q hq
        have := ha.head q hq
        simp only [Bool.not_eq_true', decide_eq_false_iff_not]
        intro e
        rw [e, he, ltS_irr] at this
        cases this
      have e2 : dropR key (p :: r) = dropR key r := by unfold dropR; rw [List.filter_cons_of_neg (by simp [he])]
      rw [e2, this]
      rfl
    · rw [findR_skip he] at h
      have e2 : dropR key (p :: r) = p :: dropR key r := by unfold dropR; rw [List.filter_cons_of_pos (by simp [he])]
      rw [e2, List.length_cons, List.length_cons, dropR_length ha.tail h]
theorem Fine.drop_length {t u : T} (h : Fine t) {key : ByteArray} (hg : findR key t.map = some u) : (t.drop key).map.length + 1 = t.map.length := by
  rw [h.pairs] at hg
  have hne : t.pairs ≠ [] := fun e => by rw [e] at hg; cases hg
  have e := h.five hne
  have e3 : t.kind = 5 := by rw [e]; rfl
  have e2 : t.drop key = .mk 5 false 0 ⟨#[]⟩ [] (dropR key t.map) := by unfold T.drop; rw [if_pos e3]
  rw [e2, h.pairs]
  show (dropR key t.pairs).length + 1 = _
  exact dropR_length h.asc hg
theorem take_cons {α : Type} (a : α) (l : List α) (n : Nat) : (a :: l).take (n + 1) = a :: l.take n := rfl
theorem dropL_cons {k : ByteArray} {l : List ByteArray} (h : l ≠ []) (t : T) : dropL (k :: l) t = t.put k (dropL l (inL k t)) := by
  cases l with
  | nil => exact absurd rfl h
  | cons a r => rfl
theorem dropL_some {k k2 : ByteArray} {r : List ByteArray} (t : T) : (dropL (k :: k2 :: r) t).map.length ≠ 0 := put_ne _ _ _
/-- Of two steps or more: as it is taken apart. -/
theorem pruneL_step (k k2 : ByteArray) (r : List ByteArray) {t u : T} (hf : Fine t) (hg : findR k t.map = some u) (h2 : (findR k2 u.map).isSome = true) (hu : Fine u) : pruneL (k :: k2 :: r) t = if (pruneL (k2 :: r) u).map.length = 0 then t.drop k else t.put k (pruneL (k2 :: r) u) := by
  have ei : inL k t = u := by rw [← hf.inL, hg]; rfl
  obtain ⟨y, hy⟩ := Option.isSome_iff_exists.1 h2
  unfold pruneL
  rw [wayL, ei]
  show dropL ((k :: k2 :: r).take (pruneN (t :: wayL (k2 :: r) u) (r.length + 1 + 1))) t = _
  rw [pruneN_cons t _ (r.length + 1) (by omega)]
  have hpos := pruneN_pos (wayL (k2 :: r) u) (r.length + 1) (by omega)
  have hw : ((wayL (k2 :: r) u)[0]?.map fun t => t.map.length) = some u.map.length := by rw [wayL]; rfl
  rw [hw]
  have hlen : (k2 :: r).length = r.length + 1 := rfl
  rw [hlen]
  by_cases h1 : pruneN (wayL (k2 :: r) u) (r.length + 1) = 1
  · rw [h1]
    have e1 : dropL ((k2 :: r).take 1) u = u.drop k2 := rfl
    rw [e1]
    have hd := hu.drop_length hy
    by_cases hm : u.map.length = 1
    · rw [if_pos ⟨rfl, by rw [hm]⟩, if_pos (by omega)]
      rfl
    · rw [if_neg (fun q => hm (by simpa using q.2)), if_neg (by omega)]
      show dropL [k, k2] t = _
      rw [dropL_cons (by simp), ei]
      rfl
  · rw [if_neg (fun q => h1 q.1), take_cons]
    obtain ⟨q, hq⟩ : ∃ q, pruneN (wayL (k2 :: r) u) (r.length + 1) = q + 2 := ⟨pruneN (wayL (k2 :: r) u) (r.length + 1) - 2, by omega⟩
    have hle := pruneN_le (wayL (k2 :: r) u) (r.length + 1)
    rw [hq, take_cons]
    rw [hq] at hle
    have hr : r ≠ [] := fun e => by rw [e] at hle; simp at hle
    obtain ⟨k3, r3, rfl⟩ := List.exists_cons_of_ne_nil hr
    have hne : ¬ (dropL (k2 :: (k3 :: r3).take (q + 1)) u).map.length = 0 := put_ne _ _ _
    rw [if_neg hne, dropL_cons (by simp), ei]
theorem pruneAt_L {l : List ByteArray} {t : T} (h : (atL l t).isSome = true) (hl : l ≠ []) : pruneAt l t = pruneL l t := by
  unfold pruneAt pruneL
  rw [if_pos h, dropAt]
  have hp : (atL (l.take (pruneN (wayL l t) l.length)) t).isSome = true := by
    have e := at_append (l.take (pruneN (wayL l t) l.length)) (l.drop (pruneN (wayL l t) l.length)) t
    rw [List.take_append_drop] at e
    rw [e] at h
    cases hq : atL (l.take (pruneN (wayL l t) l.length)) t with
    | none => rw [hq] at h; cases h
    | some y => rfl
  rw [if_pos hp]
theorem pruneQ_prune : ∀ (l : List ByteArray) (t : T), t.parts = 0 → pruneQ l t = pruneAt l t
  | [], _, _ => rfl
  | k :: r, t, h => by
    have hf := fine_of h
    rw [pruneQ, getQ_at _ _ h]
    cases ha : atL (k :: r) t with
    | none => rw [if_neg (by simp), pruneAt, ha, if_neg (by simp)]
    | some y =>
      have hs : (atL (k :: r) t).isSome = true := by rw [ha]; rfl
      rw [if_pos (show (some y).isSome = true from rfl), pruneAt_L hs (by simp)]
      cases hg : findR k t.map with
      | none =>
        rw [hf.pairs] at hg
        rw [atL, T.get_find, hg] at ha
        cases ha
      | some u =>
        cases r with
        | nil => rw [if_pos rfl, hf.drop]; rfl
        | cons k2 r =>
          have hup : u.parts = 0 := hf.each _ (by rw [hf.pairs] at hg; exact find_mem hg)
          have hu := fine_of hup
          have e := at_cons (r := k2 :: r) hf hg
          have hsu : (atL (k2 :: r) u).isSome = true := by rw [← e]; exact hs
          have h2 : (findR k2 u.map).isSome = true := by
            cases hk : findR k2 u.map with
            | none =>
              rw [hu.pairs] at hk
              rw [atL, T.get_find, hk] at hsu
              cases hsu
            | some z => rfl
          rw [if_neg (by simp), pruneL_step k k2 r hf hg h2 hu, hf.drop, hf.put]
          show (if (pruneQ (k2 :: r) u).map.length = 0 then _ else t.put k (pruneQ (k2 :: r) u)) = _
          rw [pruneQ_prune (k2 :: r) u hup, pruneAt_L hsu (by simp)]

end Go.Proofs.Ytfmlhdkodnbfaaa
