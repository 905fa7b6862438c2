/-
  Maps of few pairs: the library's stable sort where it is one insertion sort, and package tree's Map.
-/
import Derived.Test.YtbmlmcoepmbelaaDoorSort
import Derived.Test.YtbmlmcoepmbelaaDoorGet
set_option linter.unusedVariables false
set_option linter.unusedSimpArgs false
namespace Go.Proofs.YtbmlmcoepmbelaaDoor
open Go.RowKit Go.Sort

def Sorted (w : World) (base g n cap : Nat) (L : List Q) (e : Ending) (w' : World) : Prop := e = .returned (.tuple #[]) ∧ OwnQ w' base g n cap (insN (·.1) n L) ∧ w.grownBy w' (some g)

/-! ### The library's Clone of a slice of pairs -/

def qlist (ps : List (ByteArray × T)) (cm : Nat → Array Value) : List Q := ps.zipIdx.map fun x => (x.1.1, x.1.2, cm x.2)
theorem qlist_len (ps : List (ByteArray × T)) (cm : Nat → Array Value) : (qlist ps cm).length = ps.length := by simp [qlist]
theorem qlist_get (ps : List (ByteArray × T)) (cm : Nat → Array Value) (i : Nat) (h : i < (qlist ps cm).length) : (qlist ps cm)[i] = ((ps[i]'(by simpa [qlist] using h)).1, (ps[i]'(by simpa [qlist] using h)).2, cm i) := by simp [qlist]

theorem flat_inv {s : Nat} (hs : 0 < s) (D : List (Array Value)) (hD : ∀ d ∈ D, d.size = s) (j : Nat) (u : Value) (h : (D.flatMap Array.toList)[j]? = some u) : ∃ (i k : Nat) (hi : i < D.length) (hk : k < D[i].size), j = i * s + k ∧ u = D[i][k] := by
  have hj : j < D.length * s := by rw [← flat_len D hD]; exact (List.getElem?_eq_some_iff.1 h).1
  have hi : j / s < D.length := Nat.div_lt_of_lt_mul (by rw [Nat.mul_comm]; exact hj)
  have hd := hD D[j / s] (List.getElem_mem hi)
  have hk : j % s < D[j / s].size := by rw [hd]; exact Nat.mod_lt _ hs
  have e : j = j / s * s + j % s := by rw [Nat.mul_comm]; exact (Nat.div_add_mod j s).symm
  refine ⟨j / s, j % s, hi, hk, e, ?_⟩
  have := flat_get D hD (j / s) hi (j % s) hk
  rw [← e, h] at this
  exact Option.some.inj this

theorem qlist_six {w : World} {R : Nat → Prop} {ps : List (ByteArray × T)} {a : Option Addr} {cap : Nat} {cm : Nat → Array Value} (h : SliceP w R ps a cap cm) (i : Nat) (hi : i < (qlist ps cm).length) :
    ∃ (k : Int) (b : Bool) (m : Int) (s : ByteArray) (la : Option Addr) (ll lc : Nat) (ma : Option Addr) (ml mc : Nat), (qlist ps cm)[i].2.2 = #[.int .i64 k, .bool b, .int .i64 m, .string s, .slice la ll lc, .slice ma ml mc] := by
  rw [qlist_get]
  exact (h.each i (by simpa [qlist] using hi)).six
theorem qlist_rows {w : World} {R : Nat → Prop} {ps : List (ByteArray × T)} {a : Option Addr} {cap : Nat} {cm : Nat → Array Value} (h : SliceP w R ps a cap cm) : ∀ d ∈ (qlist ps cm).map qrow, d.size = 7 := fun d hd => by
  obtain ⟨q, hq, rfl⟩ := List.mem_map.1 hd
  obtain ⟨i, hi, rfl⟩ := List.getElem_of_mem hq
  obtain ⟨k, b, m, s, la, ll, lc, ma, ml, mc, e⟩ := qlist_six h i hi
  simp [qrow, e]
theorem qlist_cells {w : World} {R : Nat → Prop} {ps : List (ByteArray × T)} {bl ol cap : Nat} {cm : Nat → Array Value} (h : SliceP w R ps (some ⟨bl, ol, none⟩) cap cm) (j : Nat) (u : Value) (hj : (flatQ (qlist ps cm))[j]? = some u) : w.cell? ((⟨bl, ol, none⟩ : Addr).add j) = some u := by
  obtain ⟨i, k, hi, hk, rfl, rfl⟩ := flat_inv (by omega) _ (qlist_rows h) j u hj
  have hi' : i < ps.length := by simpa [qlist] using hi
  have er : ((qlist ps cm).map qrow)[i] = #[Value.string (ps[i]).1] ++ cm i := by simp [qrow, qlist_get]
  have hk' : k < (#[Value.string (ps[i]).1] ++ cm i).size := by rw [← er]; exact hk
  have := h.rows i hi' bl ol rfl k hk'
  rw [Addr.add_lit, ← Nat.add_assoc, this]
  exact congrArg some (get_congr er.symm k _ _)
theorem qlist_one {w : World} {R : Nat → Prop} {ps : List (ByteArray × T)} {a : Option Addr} {cap : Nat} {cm : Nat → Array Value} (h : SliceP w R ps a cap cm) : ∀ u ∈ flatQ (qlist ps cm), u.oneCell' = true := fun u hu => by
  obtain ⟨d, hd, hu⟩ := List.mem_flatMap.1 hu
  obtain ⟨q, hq, rfl⟩ := List.mem_map.1 hd
  obtain ⟨i, hi, rfl⟩ := List.getElem_of_mem hq
  obtain ⟨k, b, m, s, la, ll, lc, ma, ml, mc, e⟩ := qlist_six h i hi
  simp [qrow, e] at hu
  rcases hu with rfl | rfl | rfl | rfl | rfl | rfl | rfl <;> rfl

def CopiedP (w : World) (ps : List (ByteArray × T)) (cm : Nat → Array Value) (e : Ending) (w' : World) : Prop := ∃ g cap, e = .returned (.slice (some ⟨g, 0, none⟩) ps.length cap) ∧ w.heap.size ≤ g ∧ g < w'.heap.size ∧ OwnQ w' w.heap.size g ps.length cap (qlist ps cm) ∧ Below w.heap.size w w'

/-! ### Map -/

/-- Of several of one key in a row the last one: of the first j. -/
def keepTo {α : Type} (key : α → ByteArray) (S : List α) : Nat → List α
  | 0 => []
  | j + 1 => match S[j]? with
    | none => keepTo key S j
    | some p => if (S[j + 1]?).map key = some (key p) then keepTo key S j else keepTo key S j ++ [p]

theorem keepTo_skip {α : Type} (key : α → ByteArray) (S : List α) (j : Nat) (h : j + 1 < S.length) (e : key S[j + 1] = key S[j]) : keepTo key S (j + 1) = keepTo key S j := by
  rw [keepTo, List.getElem?_eq_getElem (by omega : j < S.length), List.getElem?_eq_getElem h]
  simp [e]
theorem keepTo_keep {α : Type} (key : α → ByteArray) (S : List α) (j : Nat) (hj : j < S.length) (h : ∀ h : j + 1 < S.length, key S[j + 1] ≠ key S[j]) : keepTo key S (j + 1) = keepTo key S j ++ [S[j]] := by
  rw [keepTo, List.getElem?_eq_getElem hj]
  by_cases hl : j + 1 < S.length
  · rw [List.getElem?_eq_getElem hl]
    simp [h hl]
  · rw [List.getElem?_eq_none (by omega)]
    simp
theorem keepTo_map {α β : Type} (f : α → β) (key : β → ByteArray) (S : List α) : ∀ j, (keepTo (fun a => key (f a)) S j).map f = keepTo key (S.map f) j
  | 0 => rfl
  | j + 1 => by
    rw [keepTo, keepTo, List.getElem?_map, List.getElem?_map, ← keepTo_map f key S j]
    cases S[j]? with
    | none => rfl
    | some p =>
      simp only [Option.map_some, Option.map_map]
      have : (Option.map (key ∘ f) S[j + 1]?) = Option.map (fun a => key (f a)) S[j + 1]? := rfl
      rw [this]
      split <;> simp
theorem keepTo_len {α : Type} (key : α → ByteArray) (S : List α) : ∀ j, (keepTo key S j).length ≤ j
  | 0 => by simp [keepTo]
  | j + 1 => by
    have := keepTo_len key S j
    rw [keepTo]
    split
    · omega
    · split
      · omega
      · simp; omega
theorem bubL_map {α β : Type} (f : α → β) (key : β → ByteArray) : ∀ (j : Nat) (L : List α), (bubL (fun a => key (f a)) j L).map f = bubL key j (L.map f)
  | 0, L => rfl
  | j + 1, L => by
    rw [bubL, bubL, List.getElem?_map, List.getElem?_map]
    cases h1 : L[j + 1]? with
    | none => simp
    | some x =>
      cases h2 : L[j]? with
      | none => simp
      | some y =>
        simp only [Option.map_some]
        split
        · rw [bubL_map f key j]; simp [List.map_set]
        · rfl
theorem insN_map {α β : Type} (f : α → β) (key : β → ByteArray) : ∀ (j : Nat) (L : List α), (insN (fun a => key (f a)) j L).map f = insN key j (L.map f)
  | 0, L => rfl
  | j + 1, L => by rw [insN, insN, bubL_map, insN_map f key j]

def strip (q : Q) : ByteArray × T := (q.1, q.2.1)
theorem strip_qlist (ps : List (ByteArray × T)) (cm : Nat → Array Value) : (qlist ps cm).map strip = ps := by
  apply List.ext_getElem
  · simp [qlist]
  · intro i h1 h2
    simp [qlist, strip]

/-- The own slice of what is kept. -/
structure KeptP (base : Nat) (w : World) (S : List Q) (j : Nat) (v : Value) (K : List Q) : Prop where
  own : w.ownsRow base 54 7 v K.length (flatQ K)
  each : ∀ i (h : i < K.length), Lies w (fun b => base ≤ b ∧ some b ≠ v.ownBlock) K[i].2.1 K[i].2.2
  keys : ∀ i (h : i < K.length), K[i].1.size ≤ 140737488355328
  res : K.map strip = (keepTo (·.1) S j).map strip
  le : j ≤ S.length

theorem KeptP.skip {base : Nat} {w : World} {S : List Q} {j : Nat} {v : Value} {K : List Q} (h : KeptP base w S j v K) {w' : World} (hb : Below w.heap.size w w') (hj : j + 1 < S.length) (e : S[j + 1].1 = S[j].1) : KeptP base w' S (j + 1) v K :=
  ⟨h.own.kept (grown_of_below hb none) (by cases v.ownBlock <;> simp), fun i hi => (h.each i hi).later hb, h.keys, by rw [h.res, keepTo_skip _ _ _ hj e], by omega⟩

theorem KeptP.len {base : Nat} {w : World} {S : List Q} {j : Nat} {v : Value} {K : List Q} (h : KeptP base w S j v K) : K.length ≤ j := by
  have := congrArg List.length h.res
  simp only [List.length_map] at this
  rw [this]
  exact keepTo_len _ _ _

theorem KeptP.step {base : Nat} {wr w2 w3 : World} {S : List Q} {j : Nat} {v v' : Value} {K : List Q} {blk : Obj} {ds : Array Value} (h : KeptP base wr S j v K) (hbase : base ≤ wr.heap.size) (hj : j < S.length) (hk : ∀ h : j + 1 < S.length, S[j + 1].1 ≠ S[j].1)
    (hks : S[j].1.size ≤ 140737488355328) (hb : Below wr.heap.size wr w2) (hL : Lies w2 (fun b => wr.heap.size ≤ b) S[j].2.1 ds)
    (own : w3.ownsRow base 54 7 v' (K.length + 1) (flatQ K ++ (#[Value.string S[j].1] ++ ds).toList)) (hg3 : (w2.alloc blk).grownBy w3 v.ownBlock) (hat : v'.ownBlock = v.ownBlock ∨ v'.ownBlock = some (w2.alloc blk).heap.size) :
    KeptP base w3 S (j + 1) v' (K ++ [(S[j].1, S[j].2.1, ds)]) := by
  have hs1 : wr.heap.size ≤ w2.heap.size := hb.size
  have k2 : ∀ b, b < w2.heap.size → some b ≠ v.ownBlock → w3.heap[b]? = w2.heap[b]? := fun b hb' hne => (hg3.block b (by simp; omega) hne).trans (Below.heap_alloc _ _ _ hb')
  have kv : ∀ b, b < w2.heap.size → some b ≠ v.ownBlock → some b ≠ v'.ownBlock := fun b hb' hne e => by
    rcases hat with h1 | h1
    · exact hne (e.trans h1)
    · rw [h1] at e
      simp at e
      omega
  have kl : ∀ b, wr.heap.size ≤ b → some b ≠ v.ownBlock := fun b hb' e => by
    have := h.own.lt b e.symm
    omega
  refine ⟨by simpa [flatQ, qrow] using own, fun i hi => ?_, fun i hi => ?_, ?_, by omega⟩
  · by_cases hij : i < K.length
    · have e : (K ++ [(S[j].1, S[j].2.1, ds)])[i] = K[i] := List.getElem_append_left hij
      rw [e]
      have := ((h.each i hij).later hb).bound
      have h0 := ((h.each i hij).bound.later hb)
      have := h0.keepB (w' := w3) (fun b hR hlt => k2 b hlt hR.1.2)
      exact this.weaken fun b hb' => ⟨hb'.1.1.1, kv b hb'.2 hb'.1.1.2⟩
    · have e2 : i = K.length := by simp at hi; omega
      subst e2
      have e : (K ++ [(S[j].1, S[j].2.1, ds)])[K.length]'hi = (S[j].1, S[j].2.1, ds) := by rw [List.getElem_append_right (by omega)]; simp
      rw [e]
      have := hL.keepB (w' := w3) (fun b hR hlt => k2 b hlt (kl b hR))
      exact this.weaken fun b hb' => ⟨by omega, kv b hb'.2 (kl b hb'.1)⟩
  · by_cases hij : i < K.length
    · have e : (K ++ [(S[j].1, S[j].2.1, ds)])[i] = K[i] := List.getElem_append_left hij
      rw [e]
      exact h.keys i hij
    · have e2 : i = K.length := by simp at hi; omega
      subst e2
      have e : (K ++ [(S[j].1, S[j].2.1, ds)])[K.length]'hi = (S[j].1, S[j].2.1, ds) := by rw [List.getElem_append_right (by omega)]; simp
      rw [e]
      exact hks
  · rw [keepTo_keep _ _ _ hj hk, List.map_append, List.map_append, h.res]
    rfl

theorem KeptP.rowsize {base : Nat} {w : World} {S : List Q} {j : Nat} {v : Value} {K : List Q} (h : KeptP base w S j v K) : ∀ d ∈ K.map qrow, d.size = 7 := fun d hd => by
  obtain ⟨q, hq, rfl⟩ := List.mem_map.1 hd
  obtain ⟨i, hi, rfl⟩ := List.getElem_of_mem hq
  have := (h.each i hi).size6
  simp [qrow, this]

/-- What is kept, as a slice of pairs. -/
theorem KeptP.done {base : Nat} {w : World} {S : List Q} {j : Nat} {v : Value} {K : List Q} (h : KeptP base w S j v K) (hx : K.length * 104 ≤ 140737488355328) :
    ∃ a cap cm, v = .slice a (K.map strip).length cap ∧ SliceP w (fun b => base ≤ b) (K.map strip) a cap cm := by
  rcases h.own.2 with ⟨rfl, h0⟩ | ⟨g, cap, cur, rfl, hbg, hgc, hnc, hcm, hcs, htake⟩
  · refine ⟨none, 0, fun _ => #[], by simp [h0], ⟨by simp [h0], by simp [h0], fun _ => rfl, fun hp => absurd hp (by simp [h0]), by omega⟩, fun i hi => absurd hi (by simp [h0]), fun i hi => absurd hi (by simp [h0]), fun i hi => absurd hi (by simp [h0])⟩
  · refine ⟨some ⟨g, 0, none⟩, cap, fun i => ((K[i]?).map (·.2.2)).getD #[], by simp, ⟨by simpa using hnc, by simpa using hx, by simp, fun _ => ⟨g, 0, rfl, hbg⟩, by unfold maxLen at hcm; omega⟩, fun i hi bl ol e k hk => ?_, fun i hi => ?_, fun i hi => ?_⟩
    · simp only [Option.some.injEq, Addr.mk.injEq, and_true] at e
      obtain ⟨rfl, rfl⟩ := e
      have hi' : i < K.length := by simpa using hi
      have hi2 : i < (K.map qrow).length := by simpa using hi
      have er : (K.map qrow)[i] = #[Value.string ((K.map strip)[i]).1] ++ ((K[i]?).map (·.2.2)).getD #[] := by simp [qrow, strip, List.getElem?_eq_getElem hi']
      have hk7 : k < ((K.map qrow)[i]).size := by rw [er]; exact hk
      have h7 := h.rowsize _ (List.getElem_mem hi2)
      have hlt : i * 7 + k < K.length * 7 := by omega
      have := flat_get (K.map qrow) h.rowsize i hi2 k hk7
      rw [Nat.zero_add, h.own.cellAt (i * 7 + k) hlt, flatQ, this]
      exact congrArg some (get_congr er k _ _)
    · have hi' : i < K.length := by simpa using hi
      simpa [strip] using h.keys i hi'
    · have hi' : i < K.length := by simpa using hi
      have := (h.each i hi').weaken (R' := fun b => base ≤ b) fun b hb => hb.1
      simpa [strip, List.getElem?_eq_getElem hi'] using this

/-- What Map makes, where the sort is one insertion sort. -/
def T.mkMap (ps : List (ByteArray × T)) : T := .mk 5 false 0 ⟨#[]⟩ [] (keepTo (·.1) (insN (·.1) ps.length ps) ps.length)

def MadeMap (w : World) (ps : List (ByteArray × T)) (e : Ending) (w' : World) : Prop := ∃ ds, e = .returned (.agg ds) ∧ Lies w' (fun b => w.heap.size ≤ b) (T.mkMap ps) ds ∧ Below w.heap.size w w'

end Go.Proofs.YtbmlmcoepmbelaaDoor
