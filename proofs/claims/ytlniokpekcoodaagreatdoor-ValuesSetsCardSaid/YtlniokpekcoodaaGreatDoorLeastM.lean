/-
  The least blocks that a value goes through.
-/
import Derived.Test.YtlniokpekcoodaaGreatDoorClone
import Derived.Test.YtlniokpekcoodaaGreatDoorBareM
import Derived.Test.YtlniokpekcoodaaGreatDoorMapTopM
import Derived.Test.YtlniokpekcoodaaGreatDoorRCompareM
import Derived.Test.YtlniokpekcoodaaGreatDoorLaid
set_option linter.unusedVariables false
set_option linter.unusedSimpArgs false
namespace Go.Proofs.YtlniokpekcoodaaGreatDoor
open Go.RowKit

theorem row_same {w : World} {b off : Nat} {cs ds : Array Value} (h1 : Row w b off cs) (h2 : Row w b off ds) (hs : cs.size = ds.size) : cs = ds := by
  refine Array.ext hs fun i hi hj => ?_
  have e1 := h1 i hi
  have e2 := h2 i hj
  exact Option.some.inj (e1.symm.trans e2)
theorem push_same {v : Value} {cs ds : Array Value} (h : #[v] ++ cs = #[v] ++ ds) : cs = ds := by
  have := congrArg Array.toList h
  simp at this
  exact this
theorem Lies.least {w : World} {R0 : Nat → Prop} {t : T} {cs : Array Value} (h : Lies w R0 t cs) : Lies w (fun b => ∀ R, Lies w R t cs → R b) t cs := by
  induction h with
  | mk k b n s l m la lc ma mc cl cm hk hn hs hl hm rl rm ks il im ihl ihm =>
    refine .mk k b n s l m la lc ma mc cl cm hk hn hs ⟨hl.le, hl.big, hl.none, fun h0 => ?_, hl.max⟩ ⟨hm.le, hm.big, hm.none, fun h0 => ?_, hm.max⟩ rl rm ks (fun i hi => (ihl i hi).weaken fun bb hb R hR => ?_) (fun i hi => (ihm i hi).weaken fun bb hb R hR => ?_)
    · obtain ⟨bb, off, e, _⟩ := hl.some h0
      refine ⟨bb, off, e, fun R hR => ?_⟩
      cases hR with
      | mk k b n s l m la lc ma mc cl2 cm2 hk2 hn2 hs2 hl2 hm2 rl2 rm2 ks2 il2 im2 =>
        obtain ⟨b2, o2, e2, hb2⟩ := hl2.some h0
        rw [e] at e2
        cases e2
        exact hb2
    · obtain ⟨bb, off, e, _⟩ := hm.some h0
      refine ⟨bb, off, e, fun R hR => ?_⟩
      cases hR with
      | mk k b n s l m la lc ma mc cl2 cm2 hk2 hn2 hs2 hl2 hm2 rl2 rm2 ks2 il2 im2 =>
        obtain ⟨b2, o2, e2, hb2⟩ := hm2.some h0
        rw [e] at e2
        cases e2
        exact hb2
    · obtain ⟨bl, ol, e, _⟩ := hl.some (by omega)
      cases hR with
      | mk k b n s l m la lc ma mc cl2 cm2 hk2 hn2 hs2 hl2 hm2 rl2 rm2 ks2 il2 im2 =>
        have e2 : cl i = cl2 i := row_same (rl i hi bl ol e) (rl2 i hi bl ol e) ((il i hi).size6.trans (il2 i hi).size6.symm)
        exact hb R (by rw [e2]; exact il2 i hi)
    · obtain ⟨bl, ol, e, _⟩ := hm.some (by omega)
      cases hR with
      | mk k b n s l m la lc ma mc cl2 cm2 hk2 hn2 hs2 hl2 hm2 rl2 rm2 ks2 il2 im2 =>
        have e2 : cm i = cm2 i := push_same (row_same (rm i hi bl ol e) (rm2 i hi bl ol e) (by rw [Array.size_append, Array.size_append, (im i hi).size6, (im2 i hi).size6]))
        exact hb R (by rw [e2]; exact im2 i hi)

end Go.Proofs.YtlniokpekcoodaaGreatDoor

/-
  Slices of pairs of one's own, as they grow; package layer's gone.
-/
set_option linter.unusedVariables false
set_option linter.unusedSimpArgs false
namespace Go.Proofs.YtlniokpekcoodaaGreatDoor
open Go.RowKit Go.Sort

/-- An own slice of pairs, as it grows: its values go through blocks of one's own, apart from its rows'. -/
structure OwnV (base : Nat) (w : World) (v : Value) (K : List Q) : Prop where
  own : w.ownsRow base 51 7 v K.length (flatQ K)
  each : ∀ i (h : i < K.length), Lies w (fun b => base ≤ b ∧ b < w.heap.size ∧ v.ownBlock ≠ some b) K[i].2.1 K[i].2.2
  keys : ∀ i (h : i < K.length), K[i].1.size ≤ 140737488355328

theorem OwnV.nil (base : Nat) (w : World) : OwnV base w (.slice none 0 0) [] := ⟨World.ownsRow_nil w base 51 7, fun i h => absurd h (by simp), fun i h => absurd h (by simp)⟩
theorem OwnV.form {base : Nat} {w : World} {v : Value} {K : List Q} (h : OwnV base w v K) : ∃ a c, v = .slice a K.length c ∧ (a = none → K.length = 0 ∧ c = 0) ∧ (∀ x, a = some x → base ≤ x.block ∧ x.block < w.heap.size) := by
  rcases h.own.2 with ⟨e, hn⟩ | ⟨g, cap, cur, e, hb, hg, _⟩
  · exact ⟨none, 0, by rw [e, hn], (fun _ => ⟨hn, rfl⟩), fun x hx => by cases hx⟩
  · refine ⟨some ⟨g, 0, none⟩, cap, e, (fun hx => by cases hx), fun x hx => ?_⟩
    injection hx with hx
    subst hx
    exact ⟨hb, (Array.getElem?_eq_some_iff.1 hg).1⟩
theorem OwnV.block {base : Nat} {w : World} {v : Value} {K : List Q} (h : OwnV base w v K) {g : Nat} (hg : v.ownBlock = some g) : base ≤ g ∧ g < w.heap.size := by
  obtain ⟨a, c, rfl, _, h2⟩ := h.form
  cases a with
  | none => cases hg
  | some x =>
    obtain rfl : x.block = g := by injection hg
    exact h2 x rfl
theorem OwnV.later {base : Nat} {w w' : World} {v : Value} {K : List Q} (h : OwnV base w v K) (hb : Below w.heap.size w w') : OwnV base w' v K :=
  ⟨h.own.kept (grown_of_below hb none) (by
    cases e : v.ownBlock with
    | none => exact .inl rfl
    | some g => exact .inr (by simp)), fun i hi => ((h.each i hi).later hb).weaken fun b hb' => ⟨hb'.1, by have := hb.size; omega, hb'.2.2⟩, h.keys⟩
theorem OwnV.step {base : Nat} {w w' : World} {v v' : Value} {K L : List Q} (h : OwnV base w v K)
    (hL : ∀ i (h : i < L.length), Lies w (fun b => base ≤ b ∧ b < w.heap.size ∧ v.ownBlock ≠ some b) L[i].2.1 L[i].2.2) (hk : ∀ i (h : i < L.length), L[i].1.size ≤ 140737488355328)
    (own : w'.ownsRow base 51 7 v' (K.length + L.length) (flatQ K ++ flatQ L)) (hg : w.grownBy w' v.ownBlock) (hob : v'.ownBlock = v.ownBlock ∨ v'.ownBlock = some w.heap.size) : OwnV base w' v' (K ++ L) := by
  have wk : ∀ {t : T} {ds : Array Value}, Lies w (fun b => base ≤ b ∧ b < w.heap.size ∧ v.ownBlock ≠ some b) t ds → Lies w' (fun b => base ≤ b ∧ b < w'.heap.size ∧ v'.ownBlock ≠ some b) t ds := fun hl =>
    (hl.keepB (w' := w') (fun b hR hlt => hg.block b hlt fun e => hR.2.2 e.symm)).weaken fun b hb => ⟨hb.1.1, by have := hg.size; omega, by
      rcases hob with e | e
      · rw [e]; exact hb.1.2.2
      · rw [e]; intro hx; injection hx with hx; omega⟩
  refine ⟨by simpa [flatQ] using own, fun i hi => ?_, fun i hi => ?_⟩
  · by_cases hij : i < K.length
    · have e : (K ++ L)[i] = K[i] := List.getElem_append_left hij
      rw [e]
      exact wk (h.each i hij)
    · have e : (K ++ L)[i] = L[i - K.length]'(by simp at hi; omega) := List.getElem_append_right (by omega)
      rw [e]
      exact wk (hL _ _)
  · by_cases hij : i < K.length
    · have e : (K ++ L)[i] = K[i] := List.getElem_append_left hij
      rw [e]
      exact h.keys i hij
    · have e : (K ++ L)[i] = L[i - K.length]'(by simp at hi; omega) := List.getElem_append_right (by omega)
      rw [e]
      exact hk _ _
theorem OwnV.rowsize {base : Nat} {w : World} {v : Value} {K : List Q} (h : OwnV base w v K) : ∀ d ∈ K.map qrow, d.size = 7 := fun d hd => by
  obtain ⟨q, hq, rfl⟩ := List.mem_map.1 hd
  obtain ⟨i, hi, rfl⟩ := List.getElem_of_mem hq
  have := (h.each i hi).size6
  simp [qrow, this]
theorem OwnV.done {base : Nat} {w : World} {v : Value} {K : List Q} (h : OwnV base w v K) (hx : K.length * 104 ≤ 140737488355328) :
    ∃ a cap, v = .slice a K.length cap ∧ SliceP w (fun b => base ≤ b) (K.map strip) a cap (fun i => ((K[i]?).map (·.2.2)).getD #[]) := by
  have hown := h.own
  rcases hown.2 with ⟨e, hn⟩ | ⟨g', cap', cur, e, hbg, hgc, hnc, hcm, hcs, htake⟩
  · have hK : K = [] := List.eq_nil_of_length_eq_zero hn
    subst hK
    exact ⟨none, 0, e, ⟨⟨by simp, by simp, fun _ => rfl, fun hp => absurd hp (by simp), by omega⟩, fun i hi => absurd hi (by simp), fun i hi => absurd hi (by simp), fun i hi => absurd hi (by simp)⟩⟩
  · subst e
    refine ⟨_, _, rfl, ⟨by simpa using hnc, by simpa using hx, by simp, fun _ => ⟨g', 0, rfl, hbg⟩, by unfold maxLen at hcm; omega⟩, fun i hi bl ol e k hk => ?_, fun i hi => ?_, fun i hi => ?_⟩
    · simp only [Option.some.injEq, Addr.mk.injEq, and_true] at e
      obtain ⟨rfl, rfl⟩ := e
      have hi' : i < K.length := by simpa using hi
      have hi2 : i < (K.map qrow).length := by simpa using hi
      have er : (K.map qrow)[i] = #[Value.string ((K.map strip)[i]).1] ++ ((K[i]?).map (·.2.2)).getD #[] := by simp [qrow, strip, List.getElem?_eq_getElem hi']
      have hk7 : k < ((K.map qrow)[i]).size := by rw [er]; exact hk
      have h7 := h.rowsize _ (List.getElem_mem hi2)
      have hlt : i * 7 + k < K.length * 7 := by omega
      have := flat_get (K.map qrow) h.rowsize i hi2 k hk7
      rw [Nat.zero_add, hown.cellAt (i * 7 + k) hlt, flatQ, this]
      exact congrArg some (get_congr er k _ _)
    · have hi' : i < K.length := by simpa using hi
      simpa [strip] using h.keys i hi'
    · have hi' : i < K.length := by simpa using hi
      have := (h.each i hi').weaken (R' := fun b => base ≤ b) fun b hb => hb.1
      simpa [strip, List.getElem?_eq_getElem hi'] using this

end Go.Proofs.YtlniokpekcoodaaGreatDoor

/-
  The reference's Put.
-/
set_option linter.unusedVariables false
set_option linter.unusedSimpArgs false
namespace Go.Proofs.YtlniokpekcoodaaGreatDoor
open Go.RowKit Go.Sort

/-- Pairs with one laid among them, as the reference goes through them. -/
def rputG (key : ByteArray) (x : T) : Bool → Prs → Prs
  | laid, [] => if laid = true then [] else [(key, x)]
  | laid, p :: r => (if ltS p.1 key = false ∧ laid = false then [(key, x)] else []) ++ ((if p.1 = key then [] else [p]) ++ rputG key x (laid || !ltS p.1 key) r)
theorem rputG_true {key : ByteArray} (x : T) : ∀ {m : Prs}, (∀ q ∈ m, q.1 ≠ key) → rputG key x true m = m
  | [], _ => rfl
  | p :: r, h => by
    rw [rputG, if_neg (by simp), if_neg (h p (by simp)), Bool.true_or, rputG_true x fun q hq => h q (by simp [hq])]
    rfl
theorem rputG_put (key : ByteArray) (x : T) : ∀ {m : Prs}, Asc m → rputG key x false m = putR key x m
  | [], _ => rfl
  | p :: r, h => by
    rcases putR_cases p key with ⟨hl, hn⟩ | he | ⟨hl, hn⟩
    · rw [putR_lt hl, rputG, if_neg (by simp [hl]), if_neg hn, hl]
      show [] ++ ([p] ++ rputG key x false r) = _
      rw [rputG_put key x h.tail]
      rfl
    · have hl : ltS p.1 key = false := by rw [he, ltS_irr]
      rw [putR_eq he, rputG, if_pos ⟨hl, rfl⟩, if_pos he, hl]
      show [(key, x)] ++ ([] ++ rputG key x true r) = _
      rw [rputG_true x fun q hq e => by have := h.head q hq; rw [e, he, ltS_irr] at this; cases this]
      rfl
    · rw [putR_gt hl hn, rputG, if_pos ⟨hl, rfl⟩, if_neg hn, hl]
      show [(key, x)] ++ ([p] ++ rputG key x true r) = _
      rw [rputG_true x fun q hq e => by have := ltS_trans (ltS_total hl hn) (h.head q hq); rw [e, ltS_irr] at this; cases this]
      rfl
theorem rputG_next (key : ByteArray) (x : T) (laid : Bool) (m : Prs) (j : Nat) (hj : j < m.length) : rputG key x laid (m.drop j) = (if ltS m[j].1 key = false ∧ laid = false then [(key, x)] else []) ++ ((if m[j].1 = key then [] else [m[j]]) ++ rputG key x (laid || !ltS m[j].1 key) (m.drop (j + 1))) := by
  rw [drop_cons m j hj, rputG]

/-- A slice of pairs of one's own, whose values go through such blocks, but not through this one. -/
structure OwnW (S : Nat → Prop) (ex : Nat) (w : World) (v : Value) (K : List Q) : Prop where
  own : w.ownsRow (ex + 1) 51 7 v K.length (flatQ K)
  each : ∀ i (h : i < K.length), Lies w (fun b => S b ∧ b < w.heap.size ∧ v.ownBlock ≠ some b ∧ b ≠ ex) K[i].2.1 K[i].2.2
  keys : ∀ i (h : i < K.length), K[i].1.size ≤ 140737488355328
theorem OwnW.nil (S : Nat → Prop) (ex : Nat) (w : World) : OwnW S ex w (.slice none 0 0) [] := ⟨World.ownsRow_nil w (ex + 1) 51 7, fun i h => absurd h (by simp), fun i h => absurd h (by simp)⟩
theorem OwnW.block {S : Nat → Prop} {ex : Nat} {w : World} {v : Value} {K : List Q} (h : OwnW S ex w v K) {g : Nat} (hg : v.ownBlock = some g) : ex < g ∧ g < w.heap.size := by
  rcases h.own.2 with ⟨e, hn⟩ | ⟨g', cap, cur, e, hb, hg', _⟩
  · rw [e] at hg; cases hg
  · rw [e] at hg
    obtain rfl : g' = g := by injection hg
    exact ⟨hb, (Array.getElem?_eq_some_iff.1 hg').1⟩
/-- What keeps all but one block. -/
theorem OwnW.keep {S : Nat → Prop} {ex : Nat} {w w' : World} {v : Value} {K : List Q} (h : OwnW S ex w v K) (hb : ∀ b, b < w.heap.size → b ≠ ex → w'.heap[b]? = w.heap[b]?) (hs : w.heap.size ≤ w'.heap.size) : OwnW S ex w' v K := by
  refine ⟨⟨h.own.1, ?_⟩, fun i hi => ((h.each i hi).keepB (fun b hR hlt => hb b hlt hR.2.2.2)).weaken fun b hb' => ⟨hb'.1.1, by have := hb'.1.2.1; omega, hb'.1.2.2.1, hb'.1.2.2.2⟩, h.keys⟩
  rcases h.own.2 with h1 | ⟨g, cap, cur, e, hbg, hg, hr⟩
  · exact .inl h1
  · exact .inr ⟨g, cap, cur, e, hbg, by rw [hb g (Array.getElem?_eq_some_iff.1 hg).1 (by omega)]; exact hg, hr⟩
theorem OwnW.later {S : Nat → Prop} {ex : Nat} {w w' : World} {v : Value} {K : List Q} (h : OwnW S ex w v K) (hb : Below w.heap.size w w') : OwnW S ex w' v K := h.keep (fun b hlt _ => hb.block b hlt) hb.size
theorem OwnW.step {S : Nat → Prop} {ex : Nat} {w w' : World} {v v' : Value} {K L : List Q} (h : OwnW S ex w v K)
    (hL : ∀ i (h : i < L.length), Lies w (fun b => S b ∧ b < w.heap.size ∧ v.ownBlock ≠ some b ∧ b ≠ ex) L[i].2.1 L[i].2.2) (hk : ∀ i (h : i < L.length), L[i].1.size ≤ 140737488355328)
    (own : w'.ownsRow (ex + 1) 51 7 v' (K.length + L.length) (flatQ K ++ flatQ L)) (hg : w.grownBy w' v.ownBlock) (hob : v'.ownBlock = v.ownBlock ∨ v'.ownBlock = some w.heap.size) : OwnW S ex w' v' (K ++ L) := by
  have wk : ∀ {t : T} {ds : Array Value}, Lies w (fun b => S b ∧ b < w.heap.size ∧ v.ownBlock ≠ some b ∧ b ≠ ex) t ds → Lies w' (fun b => S b ∧ b < w'.heap.size ∧ v'.ownBlock ≠ some b ∧ b ≠ ex) t ds := fun hl =>
    (hl.keepB (w' := w') (fun b hR hlt => hg.block b hlt fun e => hR.2.2.1 e.symm)).weaken fun b hb => ⟨hb.1.1, by have := hg.size; omega, by
      rcases hob with e | e
      · rw [e]; exact hb.1.2.2.1
      · rw [e]; intro hx; injection hx with hx; omega, hb.1.2.2.2⟩
  refine ⟨by simpa [flatQ] using own, fun i hi => ?_, fun i hi => ?_⟩
  · by_cases hij : i < K.length
    · have e : (K ++ L)[i] = K[i] := List.getElem_append_left hij
      rw [e]
      exact wk (h.each i hij)
    · have e : (K ++ L)[i] = L[i - K.length]'(by simp at hi; omega) := List.getElem_append_right (by omega)
      rw [e]
      exact wk (hL _ _)
  · by_cases hij : i < K.length
    · have e : (K ++ L)[i] = K[i] := List.getElem_append_left hij
      rw [e]
      exact h.keys i hij
    · have e : (K ++ L)[i] = L[i - K.length]'(by simp at hi; omega) := List.getElem_append_right (by omega)
      rw [e]
      exact hk _ _
theorem OwnW.one {S : Nat → Prop} {ex : Nat} {w w' : World} {v v' : Value} {K : List Q} {key : ByteArray} {x : T} {ds : Array Value} (h : OwnW S ex w v K) (hx : Lies w (fun b => S b ∧ b < w.heap.size ∧ v.ownBlock ≠ some b ∧ b ≠ ex) x ds) (hk : key.size ≤ 140737488355328)
    (own : w'.ownsRow (ex + 1) 51 7 v' (K.length + 1) (flatQ K ++ (#[Value.string key] ++ ds).toList)) (hg : w.grownBy w' v.ownBlock) (hob : v'.ownBlock = v.ownBlock ∨ v'.ownBlock = some w.heap.size) : OwnW S ex w' v' (K ++ [(key, x, ds)]) :=
  h.step (L := [(key, x, ds)]) (fun i hi => by
    obtain rfl : i = 0 := by simp at hi; omega
    exact hx) (fun i hi => by
    obtain rfl : i = 0 := by simp at hi; omega
    exact hk) (by simpa [flatQ, qrow] using own) hg hob
theorem OwnW.done {S : Nat → Prop} {ex : Nat} {w : World} {v : Value} {K : List Q} (h : OwnW S ex w v K) (hx : K.length * 104 ≤ 140737488355328) :
    ∃ a cap cm, v = .slice a K.length cap ∧ SliceP w (fun b => (S b ∨ ex < b) ∧ b ≠ ex) (K.map strip) a cap cm := by
  have hrs : ∀ d ∈ K.map qrow, d.size = 7 := fun d hd => by
    obtain ⟨q, hq, rfl⟩ := List.mem_map.1 hd
    obtain ⟨i, hi, rfl⟩ := List.getElem_of_mem hq
    have := (h.each i hi).size6
    simp [qrow, this]
  have hown := h.own
  rcases hown.2 with ⟨e, hn⟩ | ⟨g', cap', cur, e, hbg, hgc, hnc, hcm, hcs, htake⟩
  · have hK : K = [] := List.eq_nil_of_length_eq_zero hn
    subst hK
    exact ⟨none, 0, fun _ => #[], e, ⟨⟨by simp, by simp, fun _ => rfl, fun hp => absurd hp (by simp), by omega⟩, fun i hi => absurd hi (by simp), fun i hi => absurd hi (by simp), fun i hi => absurd hi (by simp)⟩⟩
  · subst e
    refine ⟨_, _, fun i => ((K[i]?).map (·.2.2)).getD #[], rfl, ⟨by simpa using hnc, by simpa using hx, by simp, fun _ => ⟨g', 0, rfl, .inr hbg, by omega⟩, by unfold maxLen at hcm; omega⟩, fun i hi bl ol e k hk => ?_, fun i hi => ?_, fun i hi => ?_⟩
    · simp only [Option.some.injEq, Addr.mk.injEq, and_true] at e
      obtain ⟨rfl, rfl⟩ := e
      have hi' : i < K.length := by simpa using hi
      have hi2 : i < (K.map qrow).length := by simpa using hi
      have er : (K.map qrow)[i] = #[Value.string ((K.map strip)[i]).1] ++ ((K[i]?).map (·.2.2)).getD #[] := by simp [qrow, strip, List.getElem?_eq_getElem hi']
      have hk7 : k < ((K.map qrow)[i]).size := by rw [er]; exact hk
      have h7 := hrs _ (List.getElem_mem hi2)
      have hlt : i * 7 + k < K.length * 7 := by omega
      have := flat_get (K.map qrow) hrs i hi2 k hk7
      rw [Nat.zero_add, hown.cellAt (i * 7 + k) hlt, flatQ, this]
      exact congrArg some (get_congr er k _ _)
    · have hi' : i < K.length := by simpa using hi
      simpa [strip] using h.keys i hi'
    · have hi' : i < K.length := by simpa using hi
      have := (h.each i hi').weaken (R' := fun b => (S b ∨ ex < b) ∧ b ≠ ex) fun b hb => ⟨.inl hb.1, hb.2.2.2⟩
      simpa [strip, List.getElem?_eq_getElem hi'] using this

end Go.Proofs.YtlniokpekcoodaaGreatDoor
