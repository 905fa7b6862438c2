/-
  Package layer's laid.
-/
import Derived.Test.YtlniokpekcoodaaGreatDoorCut
import Derived.Test.YtlniokpekcoodaaGreatDoorMapTopM
import Derived.Test.YtlniokpekcoodaaGreatDoorPathCM
import Derived.Deep.RegionLaw
import Derived.Deep.RegionHeld3
set_option linter.unusedVariables false
set_option linter.unusedSimpArgs false
namespace Go.Proofs.YtlniokpekcoodaaGreatDoor
open Go.RowKit Go.Sort

/-- append within the capacity, in a region that draws its order. -/
theorem step_append_fits {P : Program} {ops : Array Oper} {o : Oper} {a : Act} {w : World} {K : Act → World → Prop} {Q : Exit → Act → World → Prop} {E : Prop}
    (hg : o.guard = none) (s x : Operand) (t : TypeId) (hop : o.op = Op.call { callee := Callee.builtin Builtin.append, args := #[s, x], argTypes := #[t, t] })
    (base : Nat) (e : TypeId) (i : TypeInfo) (size : Nat) (h1 : P.underlying t = some (.slice e)) (h2 : P.info? e = some i) (h4 : i.size = size)
    (g k cap : Nat) (xs : List Value) (hs : a.eval s = .slice (some ⟨g, 0, none⟩) k cap) (hown : w.ownsRow base e size (.slice (some ⟨g, 0, none⟩) k cap) k xs) (ad : Addr) (m c : Nat) (news : List Value) (hx : a.eval x = .slice (some ad) m c) (hn : news.length = m * size)
    (hc : ∀ j u, news[j]? = some u → w.cell? (ad.add j) = some u) (h1c : ∀ u ∈ news, u.oneCell' = true) (b1 : k + m ≤ cap)
    (hK : ∀ w', w'.ownsRow base e size (.slice (some ⟨g, 0, none⟩) (k + m) cap) (k + m) (xs ++ news) → w.grownBy w' (some g) → K (a.put o.dst (.slice (some ⟨g, 0, none⟩) (k + m) cap)) w') :
    if Region.wanted o (yielded ops a.tmps) = true then Oper.wp P o a w K Q else E := by
  have hw : Region.wanted o (yielded ops a.tmps) = true := by simp [Region.wanted, hg]
  rw [if_pos hw]
  obtain ⟨w', hrun, r1, r2⟩ := run_append_fits (P := P) w base t o.type e i size h1 h2 h4 g k cap xs hown ad m c news hn hc h1c b1
  unfold Oper.wp
  simp [execOp, hop, resolve, invoke, builtin, hs, hx, hrun, Result.andThen]
  exact hK w' r1 r2

/-- An own slice of pairs whose values go through such blocks. -/
structure OwnR (R : Nat → Prop) (base : Nat) (w : World) (g cap : Nat) (K : List Q) : Prop where
  own : w.ownsRow base 51 7 (.slice (some ⟨g, 0, none⟩) K.length cap) K.length (flatQ K)
  each : ∀ i (h : i < K.length), Lies w (fun b => R b ∧ b ≠ g) K[i].2.1 K[i].2.2
  keys : ∀ i (h : i < K.length), K[i].1.size ≤ 140737488355328

theorem OwnR.later {R : Nat → Prop} {base : Nat} {w w' : World} {g cap : Nat} {K : List Q} (h : OwnR R base w g cap K) (hb : Below w.heap.size w w') : OwnR R base w' g cap K :=
  ⟨h.own.kept (grown_of_below hb none) (.inr (by simp [Value.ownBlock])), fun i hi => (h.each i hi).later hb, h.keys⟩
theorem OwnR.rowsize {R : Nat → Prop} {base : Nat} {w : World} {g cap : Nat} {K : List Q} (h : OwnR R base w g cap K) : ∀ d ∈ K.map qrow, d.size = 7 := fun d hd => by
  obtain ⟨q, hq, rfl⟩ := List.mem_map.1 hd
  obtain ⟨i, hi, rfl⟩ := List.getElem_of_mem hq
  have := (h.each i hi).size6
  simp [qrow, this]
theorem OwnR.step {R : Nat → Prop} {base : Nat} {wr w3 : World} {g cap : Nat} {K : List Q} {ps : Prs} {a : Option Addr} {c : Nat} {cm : Nat → Array Value} (h : OwnR R base wr g cap K)
    (hS : SliceP wr (fun b => R b ∧ b ≠ g) ps a c cm)
    (own : w3.ownsRow base 51 7 (.slice (some ⟨g, 0, none⟩) (K.length + ps.length) cap) (K.length + ps.length) (flatQ K ++ flatQ (qlist ps cm))) (hg3 : wr.grownBy w3 (some g)) :
    OwnR R base w3 g cap (K ++ qlist ps cm) := by
  have k2 : ∀ b, b < wr.heap.size → b ≠ g → w3.heap[b]? = wr.heap[b]? := fun b hb hne => hg3.block b hb (by simpa using hne)
  refine ⟨by simpa [flatQ, qlist_len] using own, fun i hi => ?_, fun i hi => ?_⟩
  · by_cases hij : i < K.length
    · have e : (K ++ qlist ps cm)[i] = K[i] := List.getElem_append_left hij
      rw [e]
      exact ((h.each i hij).keepB (w' := w3) (fun b hR hlt => k2 b hlt hR.2)).weaken fun b hb => hb.1
    · have hi2 : i - K.length < (qlist ps cm).length := by simp at hi; omega
      have e : (K ++ qlist ps cm)[i] = (qlist ps cm)[i - K.length] := List.getElem_append_right (by omega)
      rw [e, qlist_get]
      exact ((hS.each (i - K.length) (by simpa [qlist_len] using hi2)).keepB (w' := w3) (fun b hR hlt => k2 b hlt hR.2)).weaken fun b hb => hb.1
  · by_cases hij : i < K.length
    · have e : (K ++ qlist ps cm)[i] = K[i] := List.getElem_append_left hij
      rw [e]
      exact h.keys i hij
    · have hi2 : i - K.length < (qlist ps cm).length := by simp at hi; omega
      have e : (K ++ qlist ps cm)[i] = (qlist ps cm)[i - K.length] := List.getElem_append_right (by omega)
      rw [e, qlist_get]
      exact hS.keys _ (by simpa [qlist_len] using hi2)
theorem OwnR.one {R : Nat → Prop} {base : Nat} {wr w3 : World} {g cap : Nat} {K : List Q} {key : ByteArray} {x : T} {ds : Array Value} (h : OwnR R base wr g cap K) (hx : Lies wr (fun b => R b ∧ b ≠ g) x ds) (hk : key.size ≤ 140737488355328)
    (own : w3.ownsRow base 51 7 (.slice (some ⟨g, 0, none⟩) (K.length + 1) cap) (K.length + 1) (flatQ K ++ (#[Value.string key] ++ ds).toList)) (hg3 : wr.grownBy w3 (some g)) :
    OwnR R base w3 g cap (K ++ [(key, x, ds)]) := by
  have k2 : ∀ b, b < wr.heap.size → b ≠ g → w3.heap[b]? = wr.heap[b]? := fun b hb hne => hg3.block b hb (by simpa using hne)
  refine ⟨by simpa [flatQ, qrow] using own, fun i hi => ?_, fun i hi => ?_⟩
  · by_cases hij : i < K.length
    · have e : (K ++ [(key, x, ds)])[i] = K[i] := List.getElem_append_left hij
      rw [e]
      exact ((h.each i hij).keepB (w' := w3) (fun b hR hlt => k2 b hlt hR.2)).weaken fun b hb => hb.1
    · have e2 : i = K.length := by simp at hi; omega
      subst e2
      have e : (K ++ [(key, x, ds)])[K.length]'hi = (key, x, ds) := by rw [List.getElem_append_right (by omega)]; simp
      rw [e]
      exact (hx.keepB (w' := w3) (fun b hR hlt => k2 b hlt hR.2)).weaken fun b hb => hb.1
  · by_cases hij : i < K.length
    · have e : (K ++ [(key, x, ds)])[i] = K[i] := List.getElem_append_left hij
      rw [e]
      exact h.keys i hij
    · have e2 : i = K.length := by simp at hi; omega
      subst e2
      have e : (K ++ [(key, x, ds)])[K.length]'hi = (key, x, ds) := by rw [List.getElem_append_right (by omega)]; simp
      rw [e]
      exact hk
theorem OwnR.done {R : Nat → Prop} {base : Nat} {w : World} {g cap : Nat} {K : List Q} (h : OwnR R base w g cap K) (hR : R g) (hx : K.length * 104 ≤ 140737488355328) :
    ∃ cm, SliceP w R (K.map strip) (some ⟨g, 0, none⟩) cap cm := by
  have hown := h.own
  rcases hown.2 with ⟨e, _⟩ | ⟨g', cap', cur, e, hbg, hgc, hnc, hcm, hcs, htake⟩
  · cases e
  · obtain ⟨rfl, rfl⟩ : g = g' ∧ cap = cap' := by simpa using e
    refine ⟨fun i => ((K[i]?).map (·.2.2)).getD #[], ⟨by simpa using hnc, by simpa using hx, by simp, fun _ => ⟨g, 0, rfl, hR⟩, by unfold maxLen at hcm; omega⟩, fun i hi bl ol e k hk => ?_, fun i hi => ?_, fun i hi => ?_⟩
    · simp only [Option.some.injEq, Addr.mk.injEq, and_true] at e
      obtain ⟨rfl, rfl⟩ := e
      have hi' : i < K.length := by simpa using hi
      have hi2 : i < (K.map qrow).length := by simpa using hi
      have er : (K.map qrow)[i] = #[Value.string ((K.map strip)[i]).1] ++ ((K[i]?).map (·.2.2)).getD #[] := by simp [qrow, strip, List.getElem?_eq_getElem hi']
      have hk7 : k < ((K.map qrow)[i]).size := by rw [er]; exact hk
      have h7 := h.rowsize _ (List.getElem_mem hi2)
      have hlt : i * 7 + k < K.length * 7 := by omega
      have := flat_get (K.map qrow) h.rowsize i hi2 k hk7
      rw [Nat.zero_add, hown.cellAt (i * 7 + k) hlt, flatQ, this]
      exact congrArg some (get_congr er k _ _)
    · have hi' : i < K.length := by simpa using hi
      simpa [strip] using h.keys i hi'
    · have hi' : i < K.length := by simpa using hi
      have := (h.each i hi').weaken (R' := R) fun b hb => hb.1
      simpa [strip, List.getElem?_eq_getElem hi'] using this

theorem lpairs_any (k : Int) (b : Bool) (n : Int) (s : ByteArray) (la : Option Addr) (ll lc : Nat) (ma : Option Addr) (ml mc : Nat) (w : World) :
    Calls Tryz.prog 108 #[.agg #[.int .i64 k, .bool b, .int .i64 n, .string s, .slice la ll lc, .slice ma ml mc]] w fun e w' => e = .returned (if k = 5 then .slice ma ml mc else .slice none 0 0) ∧ Below w.heap.size w w' := by
  have HB := Lib.hid ((Below.refl w.heap.size w).alloc (Nat.le_refl _) (.cells #[.int .i64 k, .bool b, .int .i64 n, .string s, .slice la ll lc, .slice ma ml mc] 25))
  by_cases h : k = 5
  · rw [if_pos h]
    subst h
    go_enter Tryz.func108, Tryz.ntmps108
    go_wp2_with fail
    go_ret
    exact ⟨rfl, HB.out⟩
  · rw [if_neg h]
    have hne : (k != 5) = true := by simp [h]
    clear h
    go_enter Tryz.func108, Tryz.ntmps108
    go_wp2_with fail
    go_ret
    exact ⟨rfl, HB.out⟩

theorem node_lpairs {w0 : World} {R : Nat → Prop} {t : T} {cs : Array Value} (h : Lies w0 R t cs) : ∃ a cap cm, SliceP w0 R t.pairs a cap cm ∧ ∀ w, Calls Tryz.prog 108 #[.agg cs] w fun e w' => e = .returned (.slice a t.pairs.length cap) ∧ Below w.heap.size w w' := by
  cases h with
  | mk k b n s l m la lc ma mc cl cm hk hn hs hl hm rl rm ks il im =>
    by_cases h5 : k = 5
    · have e : (T.mk k b n s l m).pairs = m := by rw [T.pairs, if_pos h5]
      rw [e]
      refine ⟨ma, mc, cm, ⟨hm, rm, ks, im⟩, fun w => ?_⟩
      have := lpairs_any k b n s la l.length lc ma m.length mc w
      rw [if_pos h5] at this
      exact this
    · have e : (T.mk k b n s l m).pairs = [] := by rw [T.pairs, if_neg h5]
      rw [e]
      refine ⟨none, 0, cm, ⟨⟨by simp, by simp, fun _ => rfl, fun h => absurd h (by simp), by simp⟩, fun i h => absurd h (by simp), fun i h => absurd h (by simp), fun i h => absurd h (by simp)⟩, fun w => ?_⟩
      have := lpairs_any k b n s la l.length lc ma m.length mc w
      rw [if_neg h5] at this
      exact this

theorem len_le_sumL {α : Type} (f : α → Nat) : ∀ l : List α, (∀ x ∈ l, 1 ≤ f x) → l.length ≤ (l.map f).sum
  | [], _ => by simp
  | x :: r, h => by
    have h1 := h x (by simp)
    have h2 := len_le_sumL f r (fun y hy => h y (by simp [hy]))
    simp only [List.length_cons, List.map_cons, List.sum_cons]; omega
theorem size_posL (t : T) : 1 ≤ t.size := by
  obtain ⟨k, b, n, s, l, m⟩ := t
  rw [T.size_mk]; omega
theorem pairs_le_sizeL (t : T) : t.pairs.length ≤ t.size := by
  obtain ⟨k, b, n, s, l, m⟩ := t
  have := len_le_sumL (fun p : ByteArray × T => p.2.size) m (fun q _ => size_posL q.2)
  rw [T.size_mk, T.pairs]
  split
  · omega
  · simp
theorem pair_le_sizeL {t : T} {p : ByteArray × T} (h : p ∈ t.pairs) : p.2.size ≤ t.size := by
  obtain ⟨k, b, n, s, l, m⟩ := t
  have hm : p ∈ m := by
    rw [T.pairs] at h
    split at h
    · exact h
    · cases h
  have h1 := le_sum (List.mem_map.2 ⟨p, hm, rfl⟩ : p.2.size ∈ m.map fun p => p.2.size)
  rw [T.size_mk]
  omega

theorem lies_kind {w : World} {R : Nat → Prop} {t : T} {k : Int} {b : Bool} {n : Int} {s : ByteArray} {la : Option Addr} {ll lc : Nat} {ma : Option Addr} {ml mc : Nat} (h : Lies w R t #[.int .i64 k, .bool b, .int .i64 n, .string s, .slice la ll lc, .slice ma ml mc]) : t.kind = k := by
  cases h; rfl

theorem SliceP.boundL {w : World} {R : Nat → Prop} {ps : List (ByteArray × T)} {a : Option Addr} {cap : Nat} {cm : Nat → Array Value} (h : SliceP w R ps a cap cm) : SliceP w (fun b => R b ∧ b < w.heap.size) ps a cap cm :=
  ⟨⟨h.hdr.le, h.hdr.big, h.hdr.none, fun hp => by
    obtain ⟨b, o, e, hR⟩ := h.hdr.some hp
    exact ⟨b, o, e, hR, Row.lt (h.rows 0 hp b o e) (by simp; omega)⟩, h.hdr.max⟩, h.rows, h.keys, fun i hi => (h.each i hi).bound⟩
theorem flatQ_qlistL {w : World} {R : Nat → Prop} {ps : List (ByteArray × T)} {a : Option Addr} {cap : Nat} {cm : Nat → Array Value} (h : SliceP w R ps a cap cm) : (flatQ (qlist ps cm)).length = ps.length * 7 := by
  unfold flatQ
  rw [flat_len _ (qlist_rows h)]
  simp [qlist]

/-- What laid hands back: of old blocks, and of new ones. -/
def LaidIn (w0 w : World) (R1 : Nat → Prop) (t : T) (e : Ending) (w' : World) : Prop := ∃ ds, e = .returned (.agg ds) ∧ Lies w' (fun b => (R1 b ∧ b < w0.heap.size) ∨ w.heap.size ≤ b) t ds ∧ Below w.heap.size w w'

theorem one_boxL {w w1 : World} {cs : Array Value} {ty : TypeId} (h : Below (w.alloc (.cells cs ty)).heap.size (w.alloc (.cells cs ty)) w1) :
    (∀ j, w1.cell? ⟨w.heap.size, j, none⟩ = cs[j]?) ∧ (∀ j, w1.frozen? ⟨w.heap.size, j, none⟩ = false) :=
  ⟨fun j => by rw [h.cell (p := ⟨w.heap.size, j, none⟩) (by simp), World.cell?_alloc_new], fun j => by rw [h.frozen (p := ⟨w.heap.size, j, none⟩) (by simp), World.frozen?_alloc_new]⟩

theorem drop_cons {α : Type} (l : List α) (j : Nat) (h : j < l.length) : l.drop j = l[j] :: l.drop (j + 1) := List.drop_eq_getElem_cons h

theorem laid_next (rest : Prs) (m : Prs) (j : Nat) (hj : j < m.length) : overR rest (m.drop j) = cutB m[j].1 rest ++ ((if m[j].2.kind = 0 then [] else [(m[j].1, T.over (cutH m[j].1 rest) m[j].2)]) ++ overR (cutA m[j].1 rest) (m.drop (j + 1))) := by
  rw [drop_cons m j hj, overR_cons]

set_option maxRecDepth 100000 in
set_option maxHeartbeats 8000000 in
theorem laid_any {w0 : World} {R2 : Nat → Prop} {u : T} {ds : Array Value} (h2 : Lies w0 R2 u ds) : ∀ {R1 : Nat → Prop} {t : T} {cs : Array Value} (_ : Lies w0 R1 t cs) (w : World) (_ : Below w0.heap.size w0 w) (_ : t.size ≤ 1000000) (_ : u.size ≤ 1000000),
    Calls Tryz.prog 82 #[.agg cs, .agg ds] w (LaidIn w0 w R1 (T.over t u)) := by
  induction h2 with
  | mk k b n s l m la lc ma mc cl cm hk hn hs hl hm rl rm ks il im ihl ihm =>
    intro R1 t cs h1 w hw hts hus
    have CU := Lib.hid (tClone_any (Lies.mk (w := w0) k b n s l m la lc ma mc cl cm hk hn hs hl hm rl rm ks il im))
    obtain ⟨a, cap0, cm0, hP, hcall⟩ := node_lpairs h1
    have HC := Lib.hid hcall
    have HP := Lib.hid hP
    have HM : Hid (SliceP w0 _ m ma mc cm) := ⟨hm, rm, ks, im⟩
    have IH := Lib.hid ihm
    have hml : m.length ≤ 1000000 := by
      have h1 := len_le_sumL (fun p : ByteArray × T => p.2.size) m (fun q _ => size_posL q.2)
      rw [T.size_mk] at hus
      omega
    have hmz : Hid (∀ i (hi : i < m.length), m[i].2.size ≤ 1000000) := fun i hi => by
      have h1 := le_sum (List.mem_map.2 ⟨m[i], List.getElem_mem hi, rfl⟩ : m[i].2.size ∈ m.map fun p => p.2.size)
      rw [T.size_mk] at hus
      omega
    have htl : t.pairs.length ≤ 1000000 := Nat.le_trans (pairs_le_sizeL t) hts
    have htz : Hid (∀ p ∈ t.pairs, p.2.size ≤ 1000000) := fun p hp => Nat.le_trans (pair_le_sizeL hp) hts
    obtain ⟨tk, tb, tn, tsr, tla, tll, tlc, tma, tml, tmc, rfl⟩ := h1.six
    clear hP hcall hk hn hs hl hm rl rm ks il im ihl ihm h1 hus
    have h3 := Lib.hid ((((Below.refl w.heap.size w).alloc (Nat.le_refl _) (.cells #[.int .i64 tk, .bool tb, .int .i64 tn, .string tsr, .slice tla tll tlc, .slice tma tml tmc] 25)).alloc (by simp) (.cells #[.int .i64 k, .bool b, .int .i64 n, .string s, .slice la l.length lc, .slice ma m.length mc] 25)).alloc (by simp; omega) (.cells #[.int .i64 0, .bool false, .int .i64 0, .string ⟨#[]⟩, .slice none 0 0, .slice none 0 0] 25))
    by_cases h5 : k = 5
    case neg =>
      have HT := Lib.hid (over_other t b n s l m h5)
      have f1 : (k != 5) = true := by simp [h5]
      rw [HT.out]
      clear h5
      go_enter Tryz.func82, Tryz.ntmps82
      go_wp2_with fail
      refine (CU.out _ (bstep hw h3.out hw.size)).mono ?_
      rintro e w1 ⟨ds, rfl, hL, hb1⟩
      obtain ⟨d0, d1, d2, d3, d4, d4l, d4c, d5, d5l, d5c, rfl⟩ := hL.six
      obtain ⟨q0, q1, q2, q3⟩ := three_boxes hb1 (by simp)
      have Q2 := Lib.hid q2
      have HL := Lib.hid hL
      have HB := Lib.hid hb1
      have hs1 := hb1.size
      simp only [World.size_alloc] at hs1
      have z2 : ∀ j, w1.cell? ⟨w.heap.size + 1 + 1, j, none⟩ = _ := q2
      have z3 : ∀ j, w1.frozen? ⟨w.heap.size + 1 + 1, j, none⟩ = _ := q3
      clear q0 q1 q2 q3 hL hb1
      go_wp2_with fail
      obtain ⟨dd, hu, hdd⟩ := Tryz.structV
      refine ret_cells w1 (w.heap.size + 2) [.int .i64 d0, .bool d1, .int .i64 d2, .string d3, .slice d4 d4l d4c, .slice d5 d5l d5c] rfl Tryz.results82 rfl rfl hdd hu Tryz.sizeV (fun i hi => ⟨_, (Q2.out i).trans (Array.getElem?_eq_getElem (show i < 6 from hi))⟩) ?_
      refine ⟨_, rfl, (HL.out.keep (fun x hx => setRow_heap _ _ _ _ _ (by simp only [World.size_alloc] at hx; omega))).weaken (fun x hx => by simp only [World.size_alloc] at hx; omega), setRow_below _ (by omega) _ _ _ (bstep h3.out HB.out (by simp; omega))⟩
    case pos =>
      subst h5
      have HT := Lib.hid (over_map t b n s l m)
      rw [HT.out]
      obtain ⟨i0, hi, hz0, hz1, hz2⟩ := info_parts Tryz.infoP
      go_enter Tryz.func82, Tryz.ntmps82
      go_wp2_with fail
      refine (HC.out _).mono ?_
      rintro e w1 ⟨rfl, hb1⟩
      obtain ⟨q0, q1, q2, q3⟩ := three_boxes hb1 (by simp)
      have A1 := Lib.hid (bstep h3.out hb1 (by simp; omega))
      have hs1 := hb1.size
      simp only [World.size_alloc] at hs1
      have Q1 := Lib.hid q1
      have Q2 := Lib.hid q2
      have Q3 := Lib.hid q3
      have x5 : w1.cell? ⟨w.heap.size + 1, 5, none⟩ = some (.slice ma m.length mc) := q1 5
      have e0 : IntKind.i64.wrap ((t.pairs.length : Int) + (m.length : Int)) = (t.pairs.length : Int) + (m.length : Int) := IntWalk.i64_in _ (by omega)
      clear q0 q1 q2 q3 hb1
      go_wp2_with (at_make; refine wpList_make_own _ rfl _ _ 23 rfl w1.heap.size 51 i0 _ 7 Tryz.underlying23 hi hz0 hz1 .i64 .i64 _ (t.pairs.length + m.length) rfl rfl (by simp) (by rw [hz2]; omega) (by unfold maxLen; omega) (Nat.le_refl _) ?_; intro w2 hown hgrow; have y5 : w2.cell? ⟨w.heap.size + 1, 5, none⟩ = some (.slice ma m.length mc) := (World.cell?_of_block (hgrow.block (w.heap.size + 1) (by omega) (by simp))).trans x5)
      have hw1 := bstep hw A1.out hw.size
      have hg1 : w0.heap.size ≤ w1.heap.size := hw1.size
      have A2 := Lib.hid (A1.out.grown hgrow A1.out.size (by simp))
      have HGR := Lib.hid hgrow
      have hlt2 : w1.heap.size < w2.heap.size := by have := hown.lt w1.heap.size (by simp [Value.ownBlock]); omega
      have HO : Hid (OwnR (fun b => (R1 b ∧ b < w0.heap.size) ∨ w1.heap.size ≤ b) w1.heap.size w2 w1.heap.size (t.pairs.length + m.length) []) := ⟨hown, fun i hi => absurd hi (by simp), fun i hi => absurd hi (by simp)⟩
      have HZ1 := Lib.hid hz1
      have HI0 := Lib.hid hi
      clear hown hgrow x5 y5 hz0 hz1 hz2 hi
      go_loopw [5, 6, 8, 9, 10, 11, 29] (fun v5 v6 _ _ _ _ vi wr => ∃ (j : Nat) (rest : Prs) (ar : Option Addr) (cr : Nat) (cmr : Nat → Array Value) (K : List Q), j ≤ m.length ∧ vi = .int .i64 j ∧ v5 = .slice ar rest.length cr ∧ v6 = .slice (some ⟨w1.heap.size, 0, none⟩) K.length (t.pairs.length + m.length) ∧ Hid (SliceP w0 R1 rest ar cr cmr) ∧ Hid (OwnR (fun b => (R1 b ∧ b < w0.heap.size) ∨ w1.heap.size ≤ b) w1.heap.size wr w1.heap.size (t.pairs.length + m.length) K) ∧ Hid (K.map strip ++ overR rest (m.drop j) = overR t.pairs m) ∧ K.length + rest.length + (m.length - j) ≤ t.pairs.length + m.length ∧ Hid (∀ p ∈ rest, p.2.size ≤ 1000000) ∧ Below w1.heap.size w2 wr) (fun _ _ _ _ _ _ vi _ => m.length - (intOf vi).toNat)
      case atStart => exact ⟨0, t.pairs, a, cap0, cm0, [], by omega, rfl, rfl, rfl, HP.out, HO.out, by show _ = _; simp, by simp, htz.out, Below.refl _ _⟩
      case round =>
        obtain ⟨j, rest, ar, cr, cmr, K, hj, rfl, rfl, rfl, HR, HK, HE, hcap, hrz, hbw⟩ := hrel
        have hbr := A2.out.trans (hbw.mono (show w.heap.size ≤ w1.heap.size by omega))
        have hwr := bstep hw hbr hw.size
        have hltr : w1.heap.size < wr.heap.size := by have := hbw.size; omega
        by_cases hjl : j < m.length
        · obtain ⟨bl, ol, c0, c1, c2, c3, c4, c4l, c4c, c5, c5l, c5c, rfl, hc, r0, r1, r2, r3, r4, r5, r6⟩ := openM hwr HM.out.hdr HM.out.rows hjl (HM.out.each j hjl)
          have CC := Lib.hid (cut_any HR.out m[j].1)
          have IHj := fun (R1 : Nat → Prop) (t : T) (cs : Array Value) (h : Lies w0 R1 t cs) w hw a b => IH.out j hjl h w hw a b
          rw [hc] at IHj
          have IHJ := Lib.hid IHj
          have hkeyj := HM.out.keys j hjl
          have hv := Lib.hid ((Below.refl wr.heap.size wr).alloc (Nat.le_refl _) (.cells #[.string m[j].1, .int .i64 c0, .bool c1, .int .i64 c2, .string c3, .slice c4 c4l c4c, .slice c5 c5l c5c] 51))
          have kj : m[j].2.kind = c0 := by
            have := HM.out.each j hjl
            rw [hc] at this
            exact lies_kind this
          clear hc IHj
          go_wp2_with fail
          refine (CC.out _ (bstep hwr hv.out hwr.size)).mono ?_
          rintro e w3 ⟨ab, cb, cmb, hs0, a3, c3', cm3, rfl, hSB, hLH, hSA, hb3⟩
          obtain ⟨g0, g1, g2, g3, g4, g4l, g4c, g5, g5l, g5c, rfl⟩ := hLH.six
          have hA3 := Lib.hid ((Below.refl w3.heap.size w3).alloc (Nat.le_refl _) (.cells #[.int .i64 g0, .bool g1, .int .i64 g2, .string g3, .slice g4 g4l g4c, .slice g5 g5l g5c] 25))
          have hr4 := Lib.hid (bstep hv.out (bstep hb3 hA3.out hb3.size) (by simp))
          have hs4 := hb3.size
          simp only [World.size_alloc] at hs4
          have hw4 := bstep hwr hr4.out hwr.size
          have HK4 := Lib.hid (HK.out.later hr4.out)
          have HSB := Lib.hid (((hSB.boundL).later hw4).weaken (R' := fun b => ((R1 b ∧ b < w0.heap.size) ∨ w1.heap.size ≤ b) ∧ b ≠ w1.heap.size) (fun b hb => ⟨.inl ⟨hb.1, hb.2⟩, by have := hb.2; omega⟩))
          have HLH := Lib.hid hLH
          have HSA := Lib.hid hSA
          have B8 : Hid (∀ j', w3.cell? ⟨wr.heap.size, j', none⟩ = (#[.string m[j].1, .int .i64 c0, .bool c1, .int .i64 c2, .string c3, .slice c4 c4l c4c, .slice c5 c5l c5c] : Array Value)[j']?) := (one_boxL hb3).1
          have hcl := cut_len m[j].1 rest
          have hnB := hSB.hdr.none
          have hleB := hSB.hdr.le
          have B10 : Hid (∀ j', (w3.alloc (.cells #[.int .i64 g0, .bool g1, .int .i64 g2, .string g3, .slice g4 g4l g4c, .slice g5 g5l g5c] 25)).cell? ⟨w3.heap.size, j', none⟩ = (#[.int .i64 g0, .bool g1, .int .i64 g2, .string g3, .slice g4 g4l g4c, .slice g5 g5l g5c] : Array Value)[j']?) := fun j' => World.cell?_alloc_new _ _ _ _
          clear hSB hLH hSA hb3 r0 r1 r2 r3 r4 r5 r6
          go_wp2_with (at_builtin; refine wpList_append_fits_any _ rfl (.tmp 41) (.tmp 42) 23 rfl w1.heap.size 51 i0 7 Tryz.underlying23 HI0.out HZ1.out w1.heap.size K.length (t.pairs.length + m.length) _ rfl HK4.out.own ab (cutB m[j].1 rest).length cb (flatQ (qlist (cutB m[j].1 rest) cmb)) rfl ?c1 ?c2 ?c3 ?c4 ?c5 ?_)
          case c1 => exact flatQ_qlistL HSB.out
          case c2 => intro e; have := hnB e; omega
          case c3 =>
            intro ad e u v hu
            have hne : 0 < (cutB m[j].1 rest).length := by
              have h1 := flatQ_qlistL HSB.out
              have h2 := (List.getElem?_eq_some_iff.1 hu).1
              omega
            obtain ⟨b', o', e', _⟩ := HSB.out.hdr.some hne
            subst e'
            obtain rfl : (⟨b', o', none⟩ : Addr) = ad := by simpa using e
            exact qlist_cells HSB.out u v hu
          case c4 => exact qlist_one HSB.out
          case c5 => omega
          intro w5 own5 hg5
          have HK5 := Lib.hid (HK4.out.step HSB.out own5 hg5)
          have hs5 := hg5.size
          simp only [World.size_alloc] at hs5
          have Y8 : Hid (∀ j', w5.cell? ⟨wr.heap.size, j', none⟩ = (#[.string m[j].1, .int .i64 c0, .bool c1, .int .i64 c2, .string c3, .slice c4 c4l c4c, .slice c5 c5l c5c] : Array Value)[j']?) := fun j' => by
            rw [World.cell?_of_block (hg5.block wr.heap.size (by simp; omega) (by simp; omega)), World.cell?_alloc_lt _ _ _ (by simp only; omega)]
            exact B8.out j'
          have Y10 : Hid (∀ j', w5.cell? ⟨w3.heap.size, j', none⟩ = (#[.int .i64 g0, .bool g1, .int .i64 g2, .string g3, .slice g4 g4l g4c, .slice g5 g5l g5c] : Array Value)[j']?) := fun j' => by
            rw [World.cell?_of_block (hg5.block w3.heap.size (by simp) (by simp; omega))]
            exact B10.out j'
          have hr5 := Lib.hid ((hbw.trans (hr4.out.mono (show w1.heap.size ≤ wr.heap.size by omega))).grown hg5 (by simp; omega) (by simp))
          have hA5 := Lib.hid (A2.out.trans (hr5.out.mono (show w.heap.size ≤ w1.heap.size by omega)))
          have hw5 := Lib.hid (bstep hw hA5.out hw.size)
          have HN := Lib.hid (laid_next rest m j hjl)
          have hlen5 : (K ++ qlist (cutB m[j].1 rest) cmb).length = K.length + (cutB m[j].1 rest).length := by rw [List.length_append, qlist_len]
          have hmap5 : Hid ((K ++ qlist (cutB m[j].1 rest) cmb).map strip = K.map strip ++ cutB m[j].1 rest) := by
            show _ = _
            rw [List.map_append, strip_qlist]
          have HL5 := Lib.hid hlen5
          have y1 : w5.cell? ⟨wr.heap.size, 1, none⟩ = some (.int .i64 c0) := Y8.out 1
          have HRA : Hid (∀ p ∈ cutA m[j].1 rest, p.2.size ≤ 1000000) := fun p hp => hrz.out p (cutA_mem hp)
          have hHz : (cutH m[j].1 rest).size ≤ 1000000 := by
            rcases cutH_mem m[j].1 rest with e | ⟨q, hq, _, e⟩
            · rw [e]; show T.size (.mk 0 false 0 ⟨#[]⟩ [] []) ≤ _; rw [T.size_mk]; simp
            · rw [← e]; exact hrz.out q hq
          clear own5 hnB hleB hlen5
          by_cases hc0 : c0 = 0
          · have f1 : (c0 != 0) = false := by simp [hc0]
            have HE5 : Hid ((K ++ qlist (cutB m[j].1 rest) cmb).map strip ++ overR (cutA m[j].1 rest) (m.drop (j + 1)) = overR t.pairs m) := by
              show _ = _
              rw [hmap5.out, ← HE.out, HN.out, kj, if_pos hc0, List.nil_append, List.append_assoc]
            clear hc0
            go_wp2_with fail
            go_roundw
            case rel => exact ⟨j + 1, cutA m[j].1 rest, a3, c3', cm3, _, by omega, by go_num, rfl, by rw [HL5.out], HSA.out, HK5.out, HE5.out, by rw [HL5.out]; omega, HRA.out, hr5.out⟩
            case measure => simp [intOf]; omega
          · have f1 : (c0 != 0) = true := by simp [hc0]
            have HE5 : Hid ((K ++ qlist (cutB m[j].1 rest) cmb).map strip ++ ((m[j].1, T.over (cutH m[j].1 rest) m[j].2) :: overR (cutA m[j].1 rest) (m.drop (j + 1))) = overR t.pairs m) := by
              show _ = _
              rw [hmap5.out, ← HE.out, HN.out, kj, if_neg hc0, List.append_assoc]
              rfl
            have CL := Lib.hid (IHJ.out _ _ _ HLH.out)
            have hmzj := hmz.out j hjl
            have hg5lt : w1.heap.size < w5.heap.size := by omega
            have SK : Hid (∀ wx : World, (∀ b, b < w5.heap.size → b ≠ w1.heap.size → wx.heap[b]? = w5.heap[b]?) → wx.cell? ⟨wr.heap.size, 0, none⟩ = some (.string m[j].1) ∧ wx.cell? ⟨wr.heap.size, 1, none⟩ = some (.int .i64 c0) ∧ wx.cell? ⟨wr.heap.size, 2, none⟩ = some (.bool c1) ∧ wx.cell? ⟨wr.heap.size, 3, none⟩ = some (.int .i64 c2) ∧ wx.cell? ⟨wr.heap.size, 4, none⟩ = some (.string c3) ∧ wx.cell? ⟨wr.heap.size, 5, none⟩ = some (.slice c4 c4l c4c) ∧ wx.cell? ⟨wr.heap.size, 6, none⟩ = some (.slice c5 c5l c5c) ∧ wx.cell? ⟨w3.heap.size, 0, none⟩ = some (.int .i64 g0) ∧ wx.cell? ⟨w3.heap.size, 1, none⟩ = some (.bool g1) ∧ wx.cell? ⟨w3.heap.size, 2, none⟩ = some (.int .i64 g2) ∧ wx.cell? ⟨w3.heap.size, 3, none⟩ = some (.string g3) ∧ wx.cell? ⟨w3.heap.size, 4, none⟩ = some (.slice g4 g4l g4c) ∧ wx.cell? ⟨w3.heap.size, 5, none⟩ = some (.slice g5 g5l g5c)) := fun wx hx => by
              have e8 : ∀ j', wx.cell? ⟨wr.heap.size, j', none⟩ = _ := fun j' => (World.cell?_of_block (hx wr.heap.size (by omega) (by omega))).trans (Y8.out j')
              have e10 : ∀ j', wx.cell? ⟨w3.heap.size, j', none⟩ = _ := fun j' => (World.cell?_of_block (hx w3.heap.size (by omega) (by omega))).trans (Y10.out j')
              exact ⟨e8 0, e8 1, e8 2, e8 3, e8 4, e8 5, e8 6, e10 0, e10 1, e10 2, e10 3, e10 4, e10 5⟩
            clear hc0
            go_wp2_with fail
            clear y1
            go_region_held3 (fun wx : World => wx.cell? ⟨wr.heap.size, 0, none⟩ = some (.string m[j].1) ∧ wx.cell? ⟨wr.heap.size, 1, none⟩ = some (.int .i64 c0) ∧ wx.cell? ⟨wr.heap.size, 2, none⟩ = some (.bool c1) ∧ wx.cell? ⟨wr.heap.size, 3, none⟩ = some (.int .i64 c2) ∧ wx.cell? ⟨wr.heap.size, 4, none⟩ = some (.string c3) ∧ wx.cell? ⟨wr.heap.size, 5, none⟩ = some (.slice c4 c4l c4c) ∧ wx.cell? ⟨wr.heap.size, 6, none⟩ = some (.slice c5 c5l c5c) ∧ wx.cell? ⟨w3.heap.size, 0, none⟩ = some (.int .i64 g0) ∧ wx.cell? ⟨w3.heap.size, 1, none⟩ = some (.bool g1) ∧ wx.cell? ⟨w3.heap.size, 2, none⟩ = some (.int .i64 g2) ∧ wx.cell? ⟨w3.heap.size, 3, none⟩ = some (.string g3) ∧ wx.cell? ⟨w3.heap.size, 4, none⟩ = some (.slice g4 g4l g4c) ∧ wx.cell? ⟨w3.heap.size, 5, none⟩ = some (.slice g5 g5l g5c))
              (first
                | with_reducible exact SK.out _ hq7
                | with_reducible exact SK.out _ hq6a
                | with_reducible exact SK.out _ hq6
                | with_reducible exact SK.out _ (fun _ _ _ => rfl)
                | exact SK.out _ (fun _ _ _ => rfl)
                | fail)
              (first
                | (go_at_call 82
                   refine (CL.out _ hw5.out.drew hHz hmzj).mono ?_
                   rintro e w6 ⟨dx, rfl, hLx, hb6⟩
                   obtain ⟨d0, d1, d2, d3, d4, d4l, d4c, d5, d5l, d5c, rfl⟩ := hLx.six
                   have hV6 : Below w5.heap.size w5 w6 := undrew hb6
                   have hq6 : ∀ b, b < w5.heap.size → b ≠ w1.heap.size → w6.heap[b]? = w5.heap[b]? := fun b hb _ => hV6.block b hb
                   have hq6a : ∀ b, b < w5.heap.size → b ≠ w1.heap.size → (w6.alloc (.cells #[.string m[j].1, .int .i64 d0, .bool d1, .int .i64 d2, .string d3, .slice d4 d4l d4c, .slice d5 d5l d5c] 51)).heap[b]? = w5.heap[b]? := fun b hb _ => (Below.heap_alloc _ _ _ (Nat.lt_of_lt_of_le hb hV6.size)).trans (hV6.block b hb)
                   have HK6 := Lib.hid (HK5.out.later (bbox hV6 (.cells #[.string m[j].1, .int .i64 d0, .bool d1, .int .i64 d2, .string d3, .slice d4 d4l d4c, .slice d5 d5l d5c] 51) hV6.size)))
                | (refine step_append_fits rfl (.tmp 48) (.tmp 56) 23 rfl w1.heap.size 51 i0 7 Tryz.underlying23 HI0.out HZ1.out w1.heap.size (K.length + (cutB m[j].1 rest).length) (t.pairs.length + m.length) _ rfl (by have := HK6.out.own; rw [HL5.out] at this; exact this) ⟨w6.heap.size, 0, none⟩ 1 1 [.string m[j].1, .int .i64 d0, .bool d1, .int .i64 d2, .string d3, .slice d4 d4l d4c, .slice d5 d5l d5c] rfl rfl (fun j u hu => lit_cells w6 _ _ j u hu) (fun u hu => by
                     simp at hu
                     rcases hu with rfl | rfl | rfl | rfl | rfl | rfl | rfl <;> rfl) (by omega) ?_
                   intro w7 own7 hg7
                   have hq7 : ∀ b, b < w5.heap.size → b ≠ w1.heap.size → w7.heap[b]? = w5.heap[b]? := fun b hb hne => (hg7.block b (by simp; have := hV6.size; omega) (by simpa using hne)).trans (hq6a b hb hne)))
            have hs6 := hV6.size
            have hx : Lies (w6.alloc (.cells #[.string m[j].1, .int .i64 d0, .bool d1, .int .i64 d2, .string d3, .slice d4 d4l d4c, .slice d5 d5l d5c] 51)) (fun b => ((R1 b ∧ b < w0.heap.size) ∨ w1.heap.size ≤ b) ∧ b ≠ w1.heap.size) (T.over (cutH m[j].1 rest) m[j].2) #[.int .i64 d0, .bool d1, .int .i64 d2, .string d3, .slice d4 d4l d4c, .slice d5 d5l d5c] :=
              (hLx.later ((Below.refl _ _).alloc (Nat.le_refl _) _)).weaken fun b hb => by
                simp only [World.size_drew] at hb
                rcases hb with hb | hb
                · exact ⟨.inl hb, by have := hb.2; omega⟩
                · exact ⟨.inr (by omega), by omega⟩
            rw [← HL5.out] at own7
            have HK7 := Lib.hid (HK6.out.one hx hkeyj own7 hg7)
            have HE7 : Hid ((K ++ qlist (cutB m[j].1 rest) cmb ++ [(m[j].1, T.over (cutH m[j].1 rest) m[j].2, (#[.int .i64 d0, .bool d1, .int .i64 d2, .string d3, .slice d4 d4l d4c, .slice d5 d5l d5c] : Array Value))]).map strip ++ overR (cutA m[j].1 rest) (m.drop (j + 1)) = overR t.pairs m) := by
              show _ = _
              rw [← HE5.out, List.map_append, List.append_assoc]
              rfl
            have hlen7 : (K ++ qlist (cutB m[j].1 rest) cmb ++ [(m[j].1, T.over (cutH m[j].1 rest) m[j].2, (#[.int .i64 d0, .bool d1, .int .i64 d2, .string d3, .slice d4 d4l d4c, .slice d5 d5l d5c] : Array Value))]).length = K.length + (cutB m[j].1 rest).length + 1 := by rw [List.length_append, HL5.out]; rfl
            have HL7 := Lib.hid hlen7
            have hr7 := Lib.hid (((hr5.out.trans (hV6.mono (show w1.heap.size ≤ w5.heap.size by omega))).alloc (show w1.heap.size ≤ w6.heap.size by omega) (.cells #[.string m[j].1, .int .i64 d0, .bool d1, .int .i64 d2, .string d3, .slice d4 d4l d4c, .slice d5 d5l d5c] 51)).grown hg7 (by simp; omega) (by simp))
            clear hx own7 hg7 hq7 hq6 hq6a hLx hb6 hlen7
            go_wp2_with fail
            go_roundw
            case rel => exact ⟨j + 1, cutA m[j].1 rest, a3, c3', cm3, _, by omega, by go_num, rfl, by rw [HL7.out], HSA.out, HK7.out, HE7.out, by rw [HL7.out]; omega, HRA.out, hr7.out⟩
            case measure => simp [intOf]; omega
        · obtain rfl : j = m.length := by omega
          have hE : K.map strip ++ rest = overR t.pairs m := by
            have := HE.out
            rw [List.drop_length, overR_nil] at this
            exact this
          have HEE := Lib.hid hE
          have HSR := Lib.hid (((HR.out.boundL).later hwr).weaken (R' := fun b => ((R1 b ∧ b < w0.heap.size) ∨ w1.heap.size ≤ b) ∧ b ≠ w1.heap.size) (fun b hb => ⟨.inl ⟨hb.1, hb.2⟩, by have := hb.2; omega⟩))
          have hnB := HR.out.hdr.none
          have hleB := HR.out.hdr.le
          clear hE
          go_wp2_with (at_builtin; refine wpList_append_fits_any _ rfl (.tmp 60) (.tmp 61) 23 rfl w1.heap.size 51 i0 7 Tryz.underlying23 HI0.out HZ1.out w1.heap.size K.length (t.pairs.length + m.length) _ rfl HK.out.own ar rest.length cr (flatQ (qlist rest cmr)) rfl ?d1 ?d2 ?d3 ?d4 ?d5 ?_)
          case d1 => exact flatQ_qlistL HSR.out
          case d2 => intro e; have := hnB e; omega
          case d3 =>
            intro ad e u v hu
            have hne : 0 < rest.length := by
              have h1 := flatQ_qlistL HSR.out
              have h2 := (List.getElem?_eq_some_iff.1 hu).1
              omega
            obtain ⟨b', o', e', _⟩ := HSR.out.hdr.some hne
            subst e'
            obtain rfl : (⟨b', o', none⟩ : Addr) = ad := by simpa using e
            exact qlist_cells HSR.out u v hu
          case d4 => exact qlist_one HSR.out
          case d5 => omega
          intro w9 own9 hg9
          have HK9 := Lib.hid (HK.out.step HSR.out own9 hg9)
          have hs9 := hg9.size
          have hblk : ∀ x, x < w1.heap.size → w9.heap[x]? = w1.heap[x]? := fun x hx => (hg9.block x (by omega) (by simp; omega)).trans ((hbw.block x hx).trans (HGR.out.block x hx (by simp)))
          have z2 : ∀ j', w9.cell? ⟨w.heap.size + 1 + 1, j', none⟩ = _ := fun j' => (World.cell?_of_block (hblk (w.heap.size + 2) (by omega))).trans (Q2.out j')
          have z3 : ∀ j', w9.frozen? ⟨w.heap.size + 1 + 1, j', none⟩ = _ := fun j' => (World.frozen?_of_block (hblk (w.heap.size + 2) (by omega))).trans (Q3.out j')
          have A9 := Lib.hid (hbr.grown hg9 hbr.size (by simp; omega))
          have hmapE : (K ++ qlist rest cmr).map strip = overR t.pairs m := by rw [List.map_append, strip_qlist, HEE.out]
          have hlenE : (K ++ qlist rest cmr).length = K.length + rest.length := by rw [List.length_append, qlist_len]
          obtain ⟨cm9, hS9⟩ := HK9.out.done (.inr (by omega)) (by rw [hlenE]; omega)
          rw [hmapE] at hS9
          have HS9 := Lib.hid hS9
          have HLE : Hid (K.length + rest.length = (overR t.pairs m).length) := by
            show _ = _
            rw [← hmapE, List.length_map, hlenE]
          clear own9 hg9 hblk hS9 hmapE hlenE hnB hleB
          go_wp2_with fail
          obtain ⟨dd, hu, hdd⟩ := Tryz.structV
          refine ret_cells w9 (w.heap.size + 2) [.int .i64 5, .bool false, .int .i64 0, .string ⟨#[]⟩, .slice none 0 0, .slice (some ⟨w1.heap.size, 0, none⟩) (K.length + rest.length) (t.pairs.length + m.length)] rfl Tryz.results82 rfl rfl hdd hu Tryz.sizeV (fun i hi => ⟨_, (z2 i).trans (Array.getElem?_eq_getElem (show i < 6 from hi))⟩) ?_
          rw [HLE.out]
          refine ⟨_, rfl, Lies.of_slices (m := overR t.pairs m) wf5 wf0 empty_size (empty_sliceV _ _) ((HS9.out.keepB (fun x hx _ => ?_)).weaken (fun x hx => ?_)), setRow_below _ (by omega) _ _ _ A9.out⟩
          · exact setRow_heap _ _ _ _ _ (by have := hw.size; omega)
          · rcases hx with hx | hx
            · exact .inl hx
            · exact .inr (by omega)

end Go.Proofs.YtlniokpekcoodaaGreatDoor
