/-
  A value is its leaves: pure.
-/
import Derived.Test.YtfmlhdkodnbfaaaPathSM
import Derived.Test.YtfmlhdkodnbfaaaDiffP
import Derived.Test.YtfmlhdkodnbfaaaPathQ
import Derived.Test.YtfmlhdkodnbfaaaSpecs
set_option linter.unusedVariables false
set_option linter.unusedSimpArgs false
namespace Go.Proofs.Ytfmlhdkodnbfaaa
open Go.RowKit Go.Sort

abbrev Lvs := List (List ByteArray × T)
/-- The leaves: steps, and what stands there. -/
def leavesT : T → Lvs
  | .mk k b n s l m => if m = [] then [([], .mk k b n s l m)] else (m.map fun p => (leavesT p.2).map fun q => (p.1 :: q.1, q.2)).flatten
termination_by t => t
decreasing_by
  all_goals first
    | exact T.lt_l ‹_›
    | exact T.lt_m ‹_›
/-- Put one by one. -/
def putAll (ls : Lvs) (a : T) : T := ls.foldl (fun a q => putL q.1 a q.2) a
/-- What is left of them under a key. -/
def subL (k : ByteArray) (ls : Lvs) : Lvs := ls.filterMap fun q => match q.1 with
  | [] => none
  | a :: r => if a = k then some (r, q.2) else none
theorem subL_nil (k : ByteArray) : subL k [] = [] := rfl
theorem subL_here {k : ByteArray} {r : List ByteArray} {x : T} {ls : Lvs} : subL k ((k :: r, x) :: ls) = (r, x) :: subL k ls := by
  unfold subL
  rw [List.filterMap_cons]
  simp
theorem subL_other {k a : ByteArray} {r : List ByteArray} {x : T} {ls : Lvs} (h : a ≠ k) : subL k ((a :: r, x) :: ls) = subL k ls := by
  unfold subL
  rw [List.filterMap_cons]
  simp [h]
theorem subL_append (k : ByteArray) (a b : Lvs) : subL k (a ++ b) = subL k a ++ subL k b := by unfold subL; rw [List.filterMap_append]
theorem subL_cons (k : ByteArray) (ls : Lvs) : subL k (ls.map fun q => (k :: q.1, q.2)) = ls := by
  induction ls with
  | nil => rfl
  | cons q r ih =>
    obtain ⟨a, x⟩ := q
    rw [List.map_cons, subL_here, ih]
theorem subL_none {k a : ByteArray} (h : a ≠ k) (ls : Lvs) : subL k (ls.map fun q => (a :: q.1, q.2)) = [] := by
  induction ls with
  | nil => rfl
  | cons q r ih => rw [List.map_cons, subL_other h, ih]
theorem leaves_ne (t : T) : leavesT t ≠ [] := by
  induction t using T.ind with
  | _ k b n s l m hl hm =>
    rw [leavesT]
    by_cases h : m = []
    · rw [if_pos h]; simp
    · rw [if_neg h]
      obtain ⟨p, r, rfl⟩ := List.exists_cons_of_ne_nil h
      rw [List.map_cons, List.flatten_cons]
      intro e
      have := (List.append_eq_nil_iff.1 e).1
      exact hm p (by simp) (List.map_eq_nil_iff.1 this)
/-- Put one by one under the keys: under each key what is put there. -/
theorem putAll_get : ∀ (ls : Lvs) (a : T) (k : ByteArray), (∀ q ∈ ls, q.1 ≠ []) → (putAll ls a).get k = if subL k ls = [] then a.get k else some (putAll (subL k ls) (inL k a))
  | [], a, k, _ => rfl
  | q :: ls, a, k, h => by
    obtain ⟨l, x⟩ := q
    cases l with
    | nil => exact absurd rfl (h _ (List.mem_cons_self ..))
    | cons k' r =>
      show (putAll ls (a.put k' (putL r (inL k' a) x))).get k = _
      rw [putAll_get ls _ k fun q hq => h q (List.mem_cons_of_mem _ hq)]
      by_cases hk : k' = k
      · subst hk
        have hne : ¬ ((r, x) :: subL k' ls = []) := List.cons_ne_nil _ _
        have e : inL k' (a.put k' (putL r (inL k' a) x)) = putL r (inL k' a) x := by
          show ((a.put k' (putL r (inL k' a) x)).get k').getD T.nil = _
          rw [get_put]
          rfl
        rw [subL_here, if_neg hne, e]
        by_cases hs : subL k' ls = []
        · rw [if_pos hs, hs, get_put]
          rfl
        · rw [if_neg hs]
          rfl
      · have e : inL k (a.put k' (putL r (inL k' a) x)) = inL k a := by
          show ((a.put k' (putL r (inL k' a) x)).get k).getD T.nil = (a.get k).getD T.nil
          rw [get_put_other _ _ _ _ (fun e => hk e.symm)]
        rw [subL_other hk, get_put_other _ _ _ _ (fun e => hk e.symm), e]
theorem putR_asc {key : ByteArray} {x : T} : ∀ {m : Prs}, Asc m → Asc (putR key x m)
  | [], _ => List.pairwise_singleton _ _
  | p :: r, h => by
    have mem : ∀ {m : Prs} {q : ByteArray × T}, q ∈ putR key x m → q = (key, x) ∨ q ∈ m := by
      intro m
      induction m with
      | nil => intro q hq; exact .inl (by simpa [putR] using hq)
      | cons p r ih =>
        intro q hq
        rcases putR_cases p key with ⟨hl, hn⟩ | he | ⟨hl, hn⟩
        · rw [putR_lt hl] at hq
          rcases List.mem_cons.1 hq with rfl | hq
          · exact .inr (by simp)
          · exact (ih hq).imp id fun h => by simp [h]
        · rw [putR_eq he] at hq
          rcases List.mem_cons.1 hq with rfl | hq
          · exact .inl rfl
          · exact .inr (by simp [hq])
        · rw [putR_gt hl hn] at hq
          rcases List.mem_cons.1 hq with rfl | hq
          · exact .inl rfl
          · exact .inr hq
    rcases putR_cases p key with ⟨hl, hn⟩ | he | ⟨hl, hn⟩
    · rw [putR_lt hl]
      refine List.pairwise_cons.2 ⟨fun q hq => ?_, putR_asc h.tail⟩
      rcases mem hq with rfl | hq
      · exact hl
      · exact h.head q hq
    · rw [putR_eq he]
      exact List.pairwise_cons.2 ⟨fun q hq => by have := h.head q hq; rw [he] at this; exact this, h.tail⟩
    · rw [putR_gt hl hn]
      refine List.pairwise_cons.2 ⟨fun q hq => ?_, h⟩
      have h1 := ltS_total hl hn
      rcases List.mem_cons.1 hq with rfl | hq
      · exact h1
      · exact ltS_trans h1 (h.head q hq)
/-- What is put one by one into a map whose keys rise is such a map. -/
theorem putAll_form : ∀ (ls : Lvs) (a : T), (∀ q ∈ ls, q.1 ≠ []) → Asc a.pairs → (ls ≠ [] ∨ a = .mk 5 false 0 ⟨#[]⟩ [] a.pairs) → putAll ls a = .mk 5 false 0 ⟨#[]⟩ [] (putAll ls a).pairs ∧ Asc (putAll ls a).pairs
  | [], a, _, ha, h => by
    rcases h with h | h
    · exact absurd rfl h
    · exact ⟨h, ha⟩
  | q :: ls, a, h, ha, _ => by
    obtain ⟨l, x⟩ := q
    cases l with
    | nil => exact absurd rfl (h _ (List.mem_cons_self ..))
    | cons k r =>
      exact putAll_form ls _ (fun q hq => h q (List.mem_cons_of_mem _ hq)) (by show Asc (a.put k (putL r (inL k a) x)).pairs; rw [put_pairs]; exact putR_asc ha) (.inr (by show a.put k (putL r (inL k a) x) = T.mk 5 false 0 ⟨#[]⟩ [] (a.put k (putL r (inL k a) x)).pairs; rw [put_pairs]; rfl))
theorem subL_flat (k : ByteArray) : ∀ m : Prs, Asc m → subL k ((m.map fun p => (leavesT p.2).map fun q => (p.1 :: q.1, q.2)).flatten) = (match findR k m with | none => [] | some u => leavesT u)
  | [], _ => rfl
  | p :: r, h => by
    rw [List.map_cons, List.flatten_cons, subL_append]
    by_cases hk : p.1 = k
    · have hr : findR k r = none := findR_none fun x hx e => by
        have := h.head x hx
        rw [e, hk, ltS_irr] at this
        cases this
      rw [findR_here hk, subL_flat k r h.tail, hr]
      subst hk
      rw [subL_cons]
      show leavesT p.2 ++ [] = leavesT p.2
      rw [List.append_nil]
    · rw [findR_skip hk, subL_none hk, subL_flat k r h.tail]
      rfl
/-- A value is its leaves, put in any order. -/
theorem putAll_leaves (t : T) : t.parts = 0 → ∀ ls : Lvs, ls.Perm (leavesT t) → putAll ls T.nil = t := by
  induction t using T.ind with
  | _ k b n s l m hl hm =>
    intro hp ls hperm
    have hf := fine_of hp
    rw [leavesT] at hperm
    by_cases h : m = []
    · rw [if_pos h] at hperm
      rw [List.perm_singleton.1 hperm]
      rfl
    · rw [if_neg h] at hperm
      have hpm : (T.mk k b n s l m).pairs = m := hf.pairs.symm
      have asc : Asc m := by have := hf.asc; rwa [hpm] at this
      have form := hf.five (by rw [hpm]; exact h)
      rw [hpm] at form
      have hne : ∀ q ∈ ls, q.1 ≠ [] := fun q hq => by
        have := hperm.mem_iff.1 hq
        obtain ⟨x, hx, hqx⟩ := List.mem_flatten.1 this
        obtain ⟨p, hp, rfl⟩ := List.mem_map.1 hx
        obtain ⟨y, hy, rfl⟩ := List.mem_map.1 hqx
        simp
      have hln : ls ≠ [] := fun e => by
        rw [e] at hperm
        have h0 := leaves_ne (T.mk k b n s l m)
        rw [leavesT, if_neg h] at h0
        exact h0 (List.nil_perm.1 hperm)
      obtain ⟨e1, e2⟩ := putAll_form ls T.nil hne List.Pairwise.nil (.inl hln)
      rw [e1, form]
      congr 1
      refine ext_find e2 asc fun key => ?_
      have hg := putAll_get ls T.nil key hne
      rw [T.get_find] at hg
      rw [hg]
      have hs : (subL key ls).Perm (subL key ((m.map fun p => (leavesT p.2).map fun q => (p.1 :: q.1, q.2)).flatten)) := List.Perm.filterMap _ hperm
      rw [subL_flat key m asc] at hs
      cases hfk : findR key m with
      | none =>
        rw [hfk] at hs
        rw [if_pos (List.perm_nil.1 hs)]
        rfl
      | some u =>
        rw [hfk] at hs
        have hs : (subL key ls).Perm (leavesT u) := hs
        have hsn : subL key ls ≠ [] := fun e => by
          rw [e] at hs
          exact leaves_ne u (List.nil_perm.1 hs)
        rw [if_neg hsn]
        have hmem := find_mem hfk
        exact congrArg some (hm _ hmem (hf.each _ (by rw [hpm]; exact hmem)) _ hs)

end Go.Proofs.Ytfmlhdkodnbfaaa

/-
  Leaves as they lie in memory; slices.Clone of texts; what path.Leaves' closure keeps.
-/
set_option linter.unusedVariables false
set_option linter.unusedSimpArgs false
namespace Go.Proofs.Ytfmlhdkodnbfaaa
open Go.RowKit Go.Sort

theorem Try.infoS : (Try.prog.info? 9).map (fun i => (i.zero, i.size, i.bytes)) = some (some (.string ⟨#[]⟩), 1, 16) := by kernel_rfl
theorem Try.infoLeaf : (Try.prog.info? 35).map (fun i => (i.zero, i.size, i.bytes)) = some (some (.agg #[.slice none 0 0, .int .i64 0, .bool false, .int .i64 0, .string ⟨#[]⟩, .slice none 0 0, .slice none 0 0]), 7, 112) := by kernel_rfl

/-- append to a slice of one's own, as an operation of a region. -/
theorem wp_append_own {P : Program} {o : Oper} {a : Act} {w : World} {K : Act → World → Prop} {Q : Exit → Act → World → Prop}
    (hg : o.guard = none) (s x : Operand) (t : TypeId) (hop : o.op = Op.call { callee := Callee.builtin Builtin.append, args := #[s, x], argTypes := #[t, t] })
    (base : Nat) (e : TypeId) (i : TypeInfo) (z : Value) (size bytes : Nat) (ht : P.underlying t = some (.slice e)) (hi : P.info? e = some i) (hz : i.zero = some z)
    (hsize : i.size = size) (hby : i.bytes = bytes) (hzs : z.cells.size = size) (hsz : 0 < size)
    (v : Value) (n : Nat) (xs : List Value) (hs : a.eval s = v) (hown : w.ownsRow base e size v n xs)
    (ad : Addr) (m c : Nat) (news : List Value) (hx : a.eval x = .slice (some ad) m c) (hl : news.length = m * size) (hnews : ∀ j u, news[j]? = some u → w.cell? (ad.add j) = some u) (h1 : ∀ u ∈ news, u.oneCell' = true)
    (h63 : n + m ≤ maxLen) (hbytes : (n + m) * bytes ≤ 140737488355328) (hbase : base ≤ w.heap.size)
    (hK : ∀ v' w', w'.ownsRow base e size v' (n + m) (xs ++ news) → w.grownBy w' v.ownBlock → (v'.ownBlock = v.ownBlock ∨ v'.ownBlock = some w.heap.size) → K (a.put o.dst v') w') : o.wp P a w K Q := by
  obtain ⟨v', w', hr, h2, h3, h4, h5⟩ := run_append_own_at (P := P) w base t o.type e i z size bytes ht hi hz hsize hby hzs hsz v n xs hown ad m c news hl hnews h1 h63 hbytes hbase
  unfold Oper.wp
  simp [execOp, hop, resolve, invoke, builtin, hs, hx, hr, Result.andThen]
  exact hK v' w' h2 h3 h5

/-- A leaf as it lies: its steps, its value, the steps' slice, the value's cells. -/
structure LQ where
  path : List ByteArray
  val : T
  sa : Option Addr
  sc : Nat
  ds : Array Value
def LQ.row (q : LQ) : Array Value := #[Value.slice q.sa q.path.length q.sc] ++ q.ds
def LQ.strip (q : LQ) : List ByteArray × T := (q.path, q.val)
def flatK (K : List LQ) : List Value := (K.map LQ.row).flatMap Array.toList
theorem flatK_append (A B : List LQ) : flatK (A ++ B) = flatK A ++ flatK B := by unfold flatK; rw [List.map_append, List.flatMap_append]
theorem flatK_one (q : LQ) : flatK [q] = q.row.toList := by simp [flatK]
/-- Its blocks are such as R says. -/
structure LeafIn (w : World) (R : Nat → Prop) (q : LQ) : Prop where
  val : Lies w R q.val q.ds
  steps : SliceS w q.path q.sa q.sc
  mine : ∀ b off, q.sa = some ⟨b, off, none⟩ → 0 < q.path.length → R b
theorem SliceS.block {w : World} {ks : List ByteArray} {b off : Nat} {cap : Nat} (h : SliceS w ks (some ⟨b, off, none⟩) cap) (hp : 0 < ks.length) : b < w.heap.size := World.block_lt_of_cell? _ _ (h.cell 0 hp b off rfl)
theorem SliceS.keepAt {w w' : World} {ks : List ByteArray} {a : Option Addr} {cap : Nat} (h : SliceS w ks a cap) (hk : ∀ b off, a = some ⟨b, off, none⟩ → 0 < ks.length → w'.heap[b]? = w.heap[b]?) : SliceS w' ks a cap :=
  ⟨h.le, h.big, h.ofNone, h.ofSome, h.max, fun i hi b off e => (World.cell?_of_block (a := ⟨b, off + i, none⟩) (hk b off e (by omega))).trans (h.cell i hi b off e), h.sizes⟩
theorem LeafIn.keep {w w' : World} {R : Nat → Prop} {q : LQ} (h : LeafIn w R q) (hk : ∀ b, R b → b < w.heap.size → w'.heap[b]? = w.heap[b]?) : LeafIn w' (fun b => R b ∧ b < w.heap.size) q :=
  ⟨h.val.keepB hk, h.steps.keepAt fun b off e hp => hk b (h.mine b off e hp) (by have := h.steps; rw [e] at this; exact this.block hp), fun b off e hp => ⟨h.mine b off e hp, by have := h.steps; rw [e] at this; exact this.block hp⟩⟩
theorem LeafIn.weaken {w : World} {R R' : Nat → Prop} {q : LQ} (h : LeafIn w R q) (hR : ∀ b, R b → R' b) : LeafIn w R' q := ⟨h.val.weaken hR, h.steps, fun b off e hp => hR b (h.mine b off e hp)⟩
theorem LeafIn.later {w w' : World} {R : Nat → Prop} {q : LQ} (h : LeafIn w R q) (hb : Below w.heap.size w w') : LeafIn w' R q := ⟨h.val.later hb, h.steps.later hb, h.mine⟩
theorem LeafIn.row7 {w : World} {R : Nat → Prop} {q : LQ} (h : LeafIn w R q) : q.row.size = 7 := by have := h.val.size6; simp [LQ.row, this]

/-- An own row of texts is a slice of them. -/
theorem own_texts {w : World} {base : Nat} {v : Value} {ks : List ByteArray} (h : w.ownsRow base 9 1 v ks.length (ks.map Value.string)) (hbig : ks.length * 16 ≤ 140737488355328) (hz : ∀ i (h : i < ks.length), ks[i].size ≤ 140737488355328) : ∃ a c, v = .slice a ks.length c ∧ SliceS w ks a c ∧ ∀ b off, a = some ⟨b, off, none⟩ → v.ownBlock = some b := by
  rcases h.2 with ⟨e, hn⟩ | ⟨g, cap, cur, e, hb, hg, hnc, hcm, hcs, htake⟩
  · have hK : ks = [] := List.eq_nil_of_length_eq_zero hn
    subst hK
    exact ⟨none, 0, e, ⟨by simp, by simp, fun _ => rfl, fun hp => absurd hp (by simp), by omega, fun i hi => absurd hi (by simp), fun i hi => absurd hi (by simp)⟩, fun b off e => (by cases e)⟩
  · subst e
    refine ⟨_, _, rfl, ⟨hnc, hbig, fun e => (by cases e), fun _ => ⟨g, 0, rfl⟩, by unfold maxLen at hcm; omega, fun i hi b off e => ?_, hz⟩, fun b off e => ?_⟩
    · simp only [Option.some.injEq, Addr.mk.injEq, and_true] at e
      obtain ⟨rfl, rfl⟩ := e
      rw [Nat.zero_add, h.cellAt i (by omega), List.getElem?_map, List.getElem?_eq_getElem hi]
      rfl
    · simp only [Option.some.injEq, Addr.mk.injEq, and_true] at e
      rw [← e.1]
      rfl

set_option maxHeartbeats 1000000 in
theorem sCloneS_any {w0 : World} {ks : List ByteArray} {sa : Option Addr} {sc : Nat} (h : SliceS w0 ks sa sc) (w : World) (hw : Below w0.heap.size w0 w) :
    Calls Try.prog 22 #[.slice sa ks.length sc] w fun e w' => ∃ a c, e = .returned (.slice a ks.length c) ∧ SliceS w' ks a c ∧ (∀ b off, a = some ⟨b, off, none⟩ → w.heap.size ≤ b) ∧ Below w.heap.size w w' := by
  have hl := h.le
  have hx := h.big
  have H := Lib.hid h
  cases sa with
  | none =>
    obtain rfl : sc = 0 := h.ofNone rfl
    have hk : ks = [] := List.eq_nil_of_length_eq_zero (by omega)
    subst hk
    have hq : ∀ wx : World, (binOp .eql 33 (.slice none 0 0) (.slice none 0 0)).run Try.prog wx = .ok (.bool true) wx := fun wx => Lib.run_eql_slice_nil wx 33 9 _ _ _ _ _ Try.underlying33
    clear h hl hx
    go_enter Try.func22, Try.ntmps22
    go_wp2_with fail
    go_ret
    exact ⟨none, 0, rfl, H.out.later hw, fun b off e => (by cases e), Below.refl _ _⟩
  | some ad =>
    have hq : ∀ wx : World, (binOp .eql 33 (.slice (some ad) ks.length sc) (.slice none 0 0)).run Try.prog wx = .ok (.bool false) wx := fun wx => Lib.run_eql_slice_nil wx 33 9 _ _ _ _ _ Try.underlying33
    obtain ⟨i0, hi, hz0, hz1, hz2⟩ := info_parts Try.infoS
    have hown := World.ownsRow_lit (base := w.heap.size) (e := 9) (size := 1) w #[] 0 (Nat.le_refl _) (by decide) (by simp)
    have hcell : ∀ j u, (ks.map Value.string)[j]? = some u → (w.alloc (.cells #[] 9)).cell? (ad.add j) = some u := fun j u hu => by
      have hj : j < ks.length := by
        have := (List.getElem?_eq_some_iff.1 hu).1
        simpa using this
      obtain ⟨b, off, e⟩ := H.out.ofSome (by omega)
      injection e with e
      subst e
      rw [Addr.add_lit]
      have := H.out.cell j hj b off rfl
      have h1 := cells_frame hw this
      have h2 := cells_frame (((Below.refl w.heap.size w).alloc (Nat.le_refl _) (.cells #[] 9))) h1
      rw [h2]
      rw [List.getElem?_map, List.getElem?_eq_getElem hj] at hu
      exact hu
    have HC := Lib.hid hcell
    clear hcell h
    go_enter Try.func22, Try.ntmps22
    go_wp2_with (at_builtin; refine wpList_append_own _ rfl (.tmp 5) (.tmp 6) 33 rfl w.heap.size 9 i0 _ 1 16 Try.underlying33 hi hz0 hz1 hz2 rfl (by decide) _ 0 _ rfl hown ad ks.length sc (ks.map Value.string) rfl (by simp) ?c1 ?c2 ?c3 ?c4 ?c5 ?_)
    case c1 => first | exact HC.out | exact fun j u hu => HC.out j _ (by rw [List.getElem?_map, hu]; rfl)
    case c2 =>
      intro u hu
      rfl
    case c3 => unfold maxLen; omega
    intro v w1 ho hg hnil
    have hbl := ho.lt
    obtain ⟨a, c, rfl, hS, hab⟩ := own_texts ho hx H.out.sizes
    have hB : Below w.heap.size w w1 := ((Below.refl w.heap.size w).alloc (Nat.le_refl _) _).grown hg (by simp) (by simp [Value.ownBlock])
    have HS := Lib.hid hS
    have HAB : Hid (∀ b off, a = some ⟨b, off, none⟩ → w.heap.size ≤ b) := fun b off e => (hbl _ (hab b off e)).1
    clear ho hS hbl hab
    go_wp2_with fail
    go_ret
    exact ⟨a, c, rfl, HS.out, HAB.out, hB⟩

/-- What path.Leaves' closure keeps: the box of l, its own, and the steps' row. -/
structure WSt (B : Nat) (w : World) (lv sv : Value) (n : Nat) (xs : List Value) (ks : List ByteArray) : Prop where
  cell : w.cell? ⟨B, 0, none⟩ = some lv
  thaw : w.frozen? ⟨B, 0, none⟩ = false
  fn : w.cell? ⟨B + 1, 0, none⟩ = some (.func (Fn.func 21) #[] #[.pointer (some ⟨B, 0, none⟩), .pointer (some ⟨B + 1, 0, none⟩)])
  own : w.ownsRow (B + 2) 35 7 lv n xs
  steps : w.ownsRow (B + 2) 9 1 sv ks.length (ks.map Value.string)
  apart : ∀ g, lv.ownBlock = some g → sv.ownBlock ≠ some g
  sizes : ∀ i (h : i < ks.length), ks[i].size ≤ 140737488355328

/-- What it answers: the leaves, laid behind those that are there; all else is as it was. -/
structure WOut (B : Nat) (w : World) (lv sv : Value) (n : Nat) (xs : List Value) (ks : List ByteArray) (ls : Lvs) (w' : World) (lv' : Value) (K : List LQ) : Prop where
  st : WSt B w' lv' sv (n + K.length) (xs ++ flatK K) ks
  blk : lv'.ownBlock = lv.ownBlock ∨ ∃ g, lv'.ownBlock = some g ∧ w.heap.size ≤ g
  what : K.map LQ.strip = ls.map fun q => (ks ++ q.1, q.2)
  each : ∀ i (h : i < K.length), LeafIn w' (fun b => w.heap.size ≤ b ∧ b < w'.heap.size ∧ lv'.ownBlock ≠ some b) K[i]
  below : Below B w w'
  rest : ∀ b, b < w.heap.size → b ≠ B → lv.ownBlock ≠ some b → sv.ownBlock ≠ some b → w'.heap[b]? = w.heap[b]?
def WRet (B : Nat) (w : World) (lv sv : Value) (n : Nat) (xs : List Value) (ks : List ByteArray) (ls : Lvs) (e : Ending) (w' : World) : Prop := e = .returned (.tuple #[]) ∧ ∃ lv' K, WOut B w lv sv n xs ks ls w' lv' K

end Go.Proofs.Ytfmlhdkodnbfaaa
