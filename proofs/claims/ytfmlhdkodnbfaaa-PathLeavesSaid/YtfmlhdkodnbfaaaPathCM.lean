/-
  Package path's Get, Put.
-/
import Derived.Test.YtfmlhdkodnbfaaaPathR
import Derived.Test.YtfmlhdkodnbfaaaRCompareM
import Derived.Test.YtfmlhdkodnbfaaaOverSM
import Derived.Test.YtfmlhdkodnbfaaaMakesM
set_option linter.unusedVariables false
set_option linter.unusedSimpArgs false
namespace Go.Proofs.Ytfmlhdkodnbfaaa
open Go.RowKit

theorem SliceS.later {w w' : World} {ks : List ByteArray} {a : Option Addr} {cap : Nat} (h : SliceS w ks a cap) (hb : Below w.heap.size w w') : SliceS w' ks a cap :=
  ⟨h.le, h.big, h.ofNone, h.ofSome, h.max, fun i hi b off e => cells_frame hb (h.cell i hi b off e), h.sizes⟩
theorem SliceS.take {w : World} {ks : List ByteArray} {a : Option Addr} {cap : Nat} (h : SliceS w ks a cap) (n : Nat) (hn : n ≤ ks.length) : SliceS w (ks.take n) a cap := by
  have e : (ks.take n).length = n := by simp; omega
  refine ⟨by have := h.le; omega, by have := h.big; omega, h.ofNone, fun hp => h.ofSome (by omega), h.max, fun i hi b off ea => ?_, fun i hi => ?_⟩
  · have := h.cell i (by omega) b off ea
    simpa using this
  · have := h.sizes i (by omega)
    simpa using this

theorem T.nil_size : T.nil.size = 1 := by rw [T.nil, T.size_mk]; rfl
theorem T.pairs_size (t : T) : t.pairs.length ≤ t.size := by
  obtain ⟨k, b, n, s, l, m⟩ := t
  rw [T.pairs, T.size_mk]
  split
  · have : m.length ≤ (m.map fun p => p.2.size).sum := by
      induction m with
      | nil => simp
      | cons p r ih =>
        have h1 : 1 ≤ p.2.size := by obtain ⟨k, b, n, s, l, m⟩ := p.2; rw [T.size_mk]; omega
        simp only [List.length_cons, List.map_cons, List.sum_cons]
        omega
    omega
  · simp
theorem T.one_size (t : T) : 1 ≤ t.size := by obtain ⟨k, b, n, s, l, m⟩ := t; rw [T.size_mk]; omega
theorem get_size {t u : T} {key : ByteArray} (h : t.get key = some u) : u.size ≤ t.size := by
  rw [T.get_find] at h
  unfold findR at h
  cases hf : t.pairs.find? fun p => decide (p.1 = key) with
  | none => rw [hf] at h; cases h
  | some p =>
    rw [hf] at h
    obtain rfl : p.2 = u := by simpa using h
    have hm := List.mem_of_find?_eq_some hf
    obtain ⟨k, b, n, s, l, m⟩ := t
    rw [T.pairs] at hm
    split at hm
    · rw [T.size_mk]
      have := le_sum (l := m.map fun p => p.2.size) (x := p.2.size) (List.mem_map.2 ⟨p, hm, rfl⟩)
      omega
    · cases hm
theorem in_size (k : ByteArray) (t : T) : (inL k t).size ≤ t.size := by
  unfold inL
  cases h : t.get k with
  | none => rw [Option.getD_none, T.nil_size]; exact t.one_size
  | some u => exact get_size h
theorem way_size : ∀ (l : List ByteArray) (t u : T), u ∈ wayL l t → u.size ≤ t.size
  | [], _, _, h => by cases h
  | k :: r, t, u, h => by
    rw [wayL, List.mem_cons] at h
    rcases h with rfl | h
    · exact Nat.le_refl _
    · exact Nat.le_trans (way_size r _ u h) (in_size k t)
theorem way_big {l : List ByteArray} {t : T} (h : t.size ≤ 1000000) : ∀ u ∈ wayL l t, (u.pairs.length + 1) * 104 ≤ 140737488355328 := fun u hu => by
  have := way_size l t u hu
  have := u.pairs_size
  omega

set_option maxRecDepth 100000 in
set_option maxHeartbeats 2000000 in
theorem pGet_any {w0 : World} {R : Nat → Prop} {t : T} {cs : Array Value} {ks : List ByteArray} {sa : Option Addr} {sc : Nat} (h : Lies w0 R t cs) (hS : SliceS w0 ks sa sc) (w : World) (hw : Below w0.heap.size w0 w) :
    Calls Try.prog 15 #[.agg cs, .slice sa ks.length sc] w (Got w (atL ks t)) := by
  have HF := Lib.hid (find_any h hS)
  obtain ⟨k, b, n, s, la, ll2, lc, ma, ml, mc, rfl⟩ := h.six
  obtain ⟨dd, hu, hdd⟩ := Try.structV
  have DD := Lib.hid hdd
  have HU := Lib.hid hu
  clear hdd hu h hS
  have hq : ((w.alloc (.cells #[.int .i64 k, .bool b, .int .i64 n, .string s, .slice la ll2 lc, .slice ma ml mc] 25)).alloc (.cells zeroV 25)).heap.size = w.heap.size + 2 := by simp
  have hb1 := ((Below.refl w.heap.size w).alloc (Nat.le_refl _) (.cells #[.int .i64 k, .bool b, .int .i64 n, .string s, .slice la ll2 lc, .slice ma ml mc] 25)).alloc (by simp) (.cells zeroV 25)
  have b0 : Box6 ((w.alloc (.cells #[.int .i64 k, .bool b, .int .i64 n, .string s, .slice la ll2 lc, .slice ma ml mc] 25)).alloc (.cells zeroV 25)) w.heap.size #[.int .i64 k, .bool b, .int .i64 n, .string s, .slice la ll2 lc, .slice ma ml mc] := (Box6.new w _ _).later ((Below.refl (w.heap.size + 1) _).alloc (by simp) _) (by omega)
  have b1 := Box6.new (w.alloc (.cells #[.int .i64 k, .bool b, .int .i64 n, .string s, .slice la ll2 lc, .slice ma ml mc] 25)) zeroV 25
  have t1 := Thaw.new (w.alloc (.cells #[.int .i64 k, .bool b, .int .i64 n, .string s, .slice la ll2 lc, .slice ma ml mc] 25)) zeroV 25
  rw [World.size_alloc] at b1 t1
  go_enter Try.func15, Try.ntmps15
  go_upto_region 1 with fail
  generalize (w.alloc (.cells #[.int .i64 k, .bool b, .int .i64 n, .string s, .slice la ll2 lc, .slice ma ml mc] 25)).alloc (.cells zeroV 25) = v at hq hb1 b0 b1 t1 ⊢
  have HV := Lib.hid hb1
  have B1 := Lib.hid b1
  have T1 := Lib.hid t1
  obtain ⟨x0, x1, x2, x3, x4, x5⟩ := b0.six
  have hq1 : w.heap.size + 2 ≤ v.heap.size := by omega
  clear b1 t1 b0 hb1 hq
  go_wp2_with (go_at_call 26; refine (HF.out v (bstep hw HV.out hw.size)).mono ?_; rintro e w2 ⟨es, rfl, hL, hb2⟩; obtain ⟨e0, e1, e2, e3, e4, e4l, e4c, e5, e5l, e5c, rfl⟩ := hL.six; have HL := Lib.hid hL; have HB2 := Lib.hid hb2; clear hL hb2)
  have hs2 := HB2.out.size
  have hw2 := bstep hw (bstep HV.out HB2.out HV.out.size) hw.size
  refine (tClone_any HL.out _ (bbox hw2 _ hw2.size)).mono ?_
  rintro e w3 ⟨ds, rfl, hL3, hb3⟩
  obtain ⟨d0, d1, d2, d3, d4, d4l, d4c, d5, d5l, d5c, rfl⟩ := hL3.six
  have hv3 : Below v.heap.size v w3 := bstep HB2.out (bunbox hb3 (Nat.le_refl _) (by simp)) HB2.out.size
  have hz := B1.out.later hv3 (by omega)
  obtain ⟨z0, z1, z2, z3, z4, z5⟩ := hz.six
  obtain ⟨f0, f1, f2, f3, f4, f5⟩ := (T1.out.later hv3 (by omega)).six
  have HZ := Lib.hid hz
  have HL3 := Lib.hid hL3
  have HV3 := Lib.hid hv3
  have hs3 := hb3.size
  simp only [World.size_alloc] at hs3
  clear hz hL3 hb3 hv3 x0 x1 x2 x3 x4 x5
  go_wp2_with fail
  refine ret_cells_tmp w3 (w.heap.size + 1) [.int .i64 d0, .bool d1, .int .i64 d2, .string d3, .slice d4 d4l d4c, .slice d5 d5l d5c] rfl Try.results15 rfl rfl DD.out HU.out Try.sizeV (fun i hi => ⟨_, (HZ.out i hi).trans (Array.getElem?_eq_getElem (show i < 6 from hi))⟩) ?_
  exact ⟨_, rfl, (HL3.out.keep (fun b hb => setRow_heap _ _ _ _ _ (by simp only [World.size_alloc] at hb; omega))).weaken (fun b hb => by simp only [World.size_alloc] at hb; omega), setRow_below _ (by omega) _ _ _ (bstep HV.out HV3.out HV.out.size)⟩

end Go.Proofs.Ytfmlhdkodnbfaaa

/-
  The reference's Get.
-/
set_option linter.unusedVariables false
set_option linter.unusedSimpArgs false
namespace Go.Proofs.Ytfmlhdkodnbfaaa
open Go.RowKit Go.Sort

theorem one_boxL {w w1 : World} {cs : Array Value} {ty : TypeId} (h : Below (w.alloc (.cells cs ty)).heap.size (w.alloc (.cells cs ty)) w1) :
    (∀ j, w1.cell? ⟨w.heap.size, j, none⟩ = cs[j]?) ∧ (∀ j, w1.frozen? ⟨w.heap.size, j, none⟩ = false) :=
  ⟨fun j => by rw [h.cell (p := ⟨w.heap.size, j, none⟩) (by simp), World.cell?_alloc_new], fun j => by rw [h.frozen (p := ⟨w.heap.size, j, none⟩) (by simp), World.frozen?_alloc_new]⟩
theorem alloc_snd {v w : World} {cs zs : Array Value} {ty tz : TypeId} (h : Below ((v.alloc (.cells cs ty)).alloc (.cells zs tz)).heap.size ((v.alloc (.cells cs ty)).alloc (.cells zs tz)) w) :
    (∀ j, w.cell? ⟨v.heap.size + 1, j, none⟩ = zs[j]?) ∧ (∀ j, w.frozen? ⟨v.heap.size + 1, j, none⟩ = false) ∧ Below v.heap.size v w ∧ v.heap.size + 1 < w.heap.size := by
  have e : (v.alloc (.cells cs ty)).heap.size = v.heap.size + 1 := by simp
  have y := one_boxL (w := v.alloc (.cells cs ty)) h
  rw [e] at y
  refine ⟨y.1, y.2, bstep ((Below.refl _ _).alloc (Nat.le_refl _) (.cells cs ty)) (bstep ((Below.refl _ _).alloc (Nat.le_refl _) (.cells zs tz)) h (by simp)) (by simp), ?_⟩
  have := h.size
  simp at this
  omega
theorem findR_at {key : ByteArray} : ∀ (m : Prs) (j : Nat) (hj : j < m.length), (∀ i (hi : i < m.length), i < j → m[i].1 ≠ key) → m[j].1 = key → findR key m = some m[j].2
  | p :: r, 0, _, _, he => findR_here he
  | p :: r, j + 1, hj, h0, he => by
    rw [findR_skip (by have := h0 0 (by simp) (by omega); exact this)]
    exact findR_at r j (by simpa using hj) (fun i hi hij => by have := h0 (i + 1) (by simpa using hi) (by omega); simpa using this) (by simpa using he)
theorem findR_no {key : ByteArray} {m : Prs} (h : ∀ i (hi : i < m.length), i < m.length → m[i].1 ≠ key) : findR key m = none := findR_none fun q hq => by
  obtain ⟨i, hi, rfl⟩ := List.getElem_of_mem hq
  exact h i hi hi

/-- What the reference's Get hands back. -/
def RGot (w0 : World) (R : Nat → Prop) (w : World) (r : Option T) (e : Ending) (w' : World) : Prop := ∃ ds, e = .returned (.tuple #[.agg ds, .bool r.isSome]) ∧ Lies w' (fun b => R b ∧ b < w0.heap.size) (r.getD T.nil) ds ∧ Below w.heap.size w w'

end Go.Proofs.Ytfmlhdkodnbfaaa

/-
  Slices of pairs of one's own, as they grow; package layer's gone.
-/
set_option linter.unusedVariables false
set_option linter.unusedSimpArgs false
namespace Go.Proofs.Ytfmlhdkodnbfaaa
open Go.RowKit Go.Sort

/-- append to a slice of one's own, as one step of a region that draws its order. -/
theorem step_append_own {P : Program} {ops : Array Oper} {o : Oper} {a : Act} {w : World} {K : Act → World → Prop} {Q : Exit → Act → World → Prop} {E : Prop}
    (hg : o.guard = none) (s x : Operand) (t : TypeId) (hop : o.op = Op.call { callee := Callee.builtin Builtin.append, args := #[s, x], argTypes := #[t, t] })
    (base : Nat) (e : TypeId) (i : TypeInfo) (z : Value) (size bytes : Nat) (ht : P.underlying t = some (.slice e)) (hi : P.info? e = some i) (hz : i.zero = some z)
    (hsize : i.size = size) (hby : i.bytes = bytes) (hzs : z.cells.size = size) (hsz : 0 < size)
    (v : Value) (n : Nat) (xs : List Value) (hs : a.eval s = v) (hown : w.ownsRow base e size v n xs)
    (ad : Addr) (m c : Nat) (news : List Value) (hx : a.eval x = .slice (some ad) m c) (hl : news.length = m * size) (hnews : ∀ j u, news[j]? = some u → w.cell? (ad.add j) = some u) (h1 : ∀ u ∈ news, u.oneCell' = true)
    (h63 : n + m ≤ maxLen) (hbytes : (n + m) * bytes ≤ 140737488355328) (hbase : base ≤ w.heap.size)
    (hK : ∀ v' w', w'.ownsRow base e size v' (n + m) (xs ++ news) → w.grownBy w' v.ownBlock → (v'.ownBlock = v.ownBlock ∨ v'.ownBlock = some w.heap.size) → K (a.put o.dst v') w') :
    if Region.wanted o (yielded ops a.tmps) = true then Oper.wp P o a w K Q else E := by
  have hw : Region.wanted o (yielded ops a.tmps) = true := by simp [Region.wanted, hg]
  rw [if_pos hw]
  obtain ⟨v', w', hr, h2, h3, h4, h5⟩ := run_append_own_at (P := P) w base t o.type e i z size bytes ht hi hz hsize hby hzs hsz v n xs hown ad m c news hl hnews h1 h63 hbytes hbase
  unfold Oper.wp
  simp [execOp, hop, resolve, invoke, builtin, hs, hx, hr, Result.andThen]
  exact hK v' w' h2 h3 h5

/-- append to a slice of one's own, of one that may be nil. -/
theorem wpList_append_own_any {P : Program} (w : World) {ops : Array Oper} {rest : List Oper} {o : Oper} {a : Act} {Q : Exit → Act → World → Prop} (hgd : o.guard = none) (s x : Operand) (t : TypeId)
    (ho : o.op = .call { callee := .builtin .append, args := #[s, x], argTypes := #[t, t] })
    (base : Nat) (e : TypeId) (i : TypeInfo) (z : Value) (size bytes : Nat) (ht : P.underlying t = some (.slice e)) (hi : P.info? e = some i) (hz : i.zero = some z)
    (hsize : i.size = size) (hby : i.bytes = bytes) (hzs : z.cells.size = size) (hsz : 0 < size)
    (v : Value) (n : Nat) (xs : List Value) (hs : a.eval s = v) (hown : w.ownsRow base e size v n xs)
    (ao : Option Addr) (m c : Nat) (news : List Value) (hx : a.eval x = .slice ao m c) (hl : news.length = m * size) (hnone : ao = none → m = 0 ∧ c = 0)
    (hnews : ∀ ad, ao = some ad → ∀ j u, news[j]? = some u → w.cell? (ad.add j) = some u) (h1 : ∀ u ∈ news, u.oneCell' = true)
    (h63 : n + m ≤ maxLen) (hbytes : (n + m) * bytes ≤ 140737488355328) (hbase : base ≤ w.heap.size)
    (h : ∀ v' w', w'.ownsRow base e size v' (n + m) (xs ++ news) → w.grownBy w' v.ownBlock → (v'.ownBlock = v.ownBlock ∨ v'.ownBlock = some w.heap.size) → wpList P ops Q rest (a.put o.dst v') w') :
    wpList P ops Q (o :: rest) a w := by
  cases ao with
  | some ad => exact wpList_append_own_at w hgd s x t ho base e i z size bytes ht hi hz hsize hby hzs hsz v n xs hs hown ad m c news hx hl (hnews ad rfl) h1 h63 hbytes hbase (fun v' w' a b _ d => h v' w' a b d)
  | none =>
    obtain ⟨rfl, rfl⟩ := hnone rfl
    have hnw : news = [] := List.eq_nil_of_length_eq_zero (by simpa using hl)
    subst hnw
    refine wpList_plain hgd fun K hK' => ?_
    have hrun := run_append_owned_none (P := P) w base t o.type e i size ht hi _ n xs hown
    unfold Oper.wp
    simp [execOp, ho, resolve, invoke, builtin, hs, hx, hrun, Result.andThen]
    exact hK' _ _ (by simpa using h v w (by simpa using hown) (World.grownBy.refl _ _) (.inl rfl))

theorem row_form {w : World} {base : Nat} {e : TypeId} {size : Nat} {v : Value} {n : Nat} {xs : List Value} (h : w.ownsRow base e size v n xs) : ∃ a c, v = .slice a n c := by
  rcases h.2 with ⟨e, hn⟩ | ⟨g, cap, cur, e, _⟩
  · exact ⟨none, 0, by rw [e, hn]⟩
  · exact ⟨_, _, e⟩

/-- An own slice of pairs, as it grows: its values go through blocks of one's own, apart from its rows'. -/
structure OwnV (base : Nat) (w : World) (v : Value) (K : List Q) : Prop where
  own : w.ownsRow base 51 7 v K.length (flatQ K)
  each : ∀ i (h : i < K.length), Lies w (fun b => base ≤ b ∧ b < w.heap.size ∧ v.ownBlock ≠ some b) K[i].2.1 K[i].2.2
  keys : ∀ i (h : i < K.length), K[i].1.size ≤ 140737488355328

theorem OwnV.nil (base : Nat) (w : World) : OwnV base w (.slice none 0 0) [] := ⟨World.ownsRow_nil w base 51 7, fun i h => absurd h (by simp), fun i h => absurd h (by simp)⟩
theorem OwnV.form {base : Nat} {w : World} {v : Value} {K : List Q} (h : OwnV base w v K) : ∃ a c, v = .slice a K.length c ∧ (a = none → K.length = 0 ∧ c = 0) ∧ (∀ x, a = some x → base ≤ x.block ∧ x.block < w.heap.size) := by
  rcases h.own.2 with ⟨e, hn⟩ | ⟨g, cap, cur, e, hb, hg, _⟩
  · exact ⟨none, 0, by rw [e, hn], (fun _ => ⟨hn, rfl⟩), fun x hx => by cases hx⟩
  · refine ⟨some ⟨g, 0, none⟩, cap, e, (fun hx => by cases hx), fun x hx => ?_⟩
    injection hx with hx
    subst hx
    exact ⟨hb, (Array.getElem?_eq_some_iff.1 hg).1⟩
theorem OwnV.block {base : Nat} {w : World} {v : Value} {K : List Q} (h : OwnV base w v K) {g : Nat} (hg : v.ownBlock = some g) : base ≤ g ∧ g < w.heap.size := by
  obtain ⟨a, c, rfl, _, h2⟩ := h.form
  cases a with
  | none => cases hg
  | some x =>
    obtain rfl : x.block = g := by injection hg
    exact h2 x rfl
theorem OwnV.later {base : Nat} {w w' : World} {v : Value} {K : List Q} (h : OwnV base w v K) (hb : Below w.heap.size w w') : OwnV base w' v K :=
  ⟨h.own.kept (grown_of_below hb none) (by
    cases e : v.ownBlock with
    | none => exact .inl rfl
    | some g => exact .inr (by simp)), fun i hi => ((h.each i hi).later hb).weaken fun b hb' => ⟨hb'.1, by have := hb.size; omega, hb'.2.2⟩, h.keys⟩
theorem OwnV.step {base : Nat} {w w' : World} {v v' : Value} {K L : List Q} (h : OwnV base w v K)
    (hL : ∀ i (h : i < L.length), Lies w (fun b => base ≤ b ∧ b < w.heap.size ∧ v.ownBlock ≠ some b) L[i].2.1 L[i].2.2) (hk : ∀ i (h : i < L.length), L[i].1.size ≤ 140737488355328)
    (own : w'.ownsRow base 51 7 v' (K.length + L.length) (flatQ K ++ flatQ L)) (hg : w.grownBy w' v.ownBlock) (hob : v'.ownBlock = v.ownBlock ∨ v'.ownBlock = some w.heap.size) : OwnV base w' v' (K ++ L) := by
  have wk : ∀ {t : T} {ds : Array Value}, Lies w (fun b => base ≤ b ∧ b < w.heap.size ∧ v.ownBlock ≠ some b) t ds → Lies w' (fun b => base ≤ b ∧ b < w'.heap.size ∧ v'.ownBlock ≠ some b) t ds := fun hl =>
    (hl.keepB (w' := w') (fun b hR hlt => hg.block b hlt fun e => hR.2.2 e.symm)).weaken fun b hb => ⟨hb.1.1, by have := hg.size; omega, by
      rcases hob with e | e
      · rw [e]; exact hb.1.2.2
      · rw [e]; intro hx; injection hx with hx; omega⟩
  refine ⟨by simpa [flatQ] using own, fun i hi => ?_, fun i hi => ?_⟩
  · by_cases hij : i < K.length
    · have e : (K ++ L)[i] = K[i] := List.getElem_append_left hij
      rw [e]
      exact wk (h.each i hij)
    · have e : (K ++ L)[i] = L[i - K.length]'(by simp at hi; omega) := List.getElem_append_right (by omega)
      rw [e]
      exact wk (hL _ _)
  · by_cases hij : i < K.length
    · have e : (K ++ L)[i] = K[i] := List.getElem_append_left hij
      rw [e]
      exact h.keys i hij
    · have e : (K ++ L)[i] = L[i - K.length]'(by simp at hi; omega) := List.getElem_append_right (by omega)
      rw [e]
      exact hk _ _
theorem OwnV.rowsize {base : Nat} {w : World} {v : Value} {K : List Q} (h : OwnV base w v K) : ∀ d ∈ K.map qrow, d.size = 7 := fun d hd => by
  obtain ⟨q, hq, rfl⟩ := List.mem_map.1 hd
  obtain ⟨i, hi, rfl⟩ := List.getElem_of_mem hq
  have := (h.each i hi).size6
  simp [qrow, this]
theorem OwnV.done {base : Nat} {w : World} {v : Value} {K : List Q} (h : OwnV base w v K) (hx : K.length * 104 ≤ 140737488355328) :
    ∃ a cap, v = .slice a K.length cap ∧ SliceP w (fun b => base ≤ b) (K.map strip) a cap (fun i => ((K[i]?).map (·.2.2)).getD #[]) := by
  have hown := h.own
  rcases hown.2 with ⟨e, hn⟩ | ⟨g', cap', cur, e, hbg, hgc, hnc, hcm, hcs, htake⟩
  · have hK : K = [] := List.eq_nil_of_length_eq_zero hn
    subst hK
    exact ⟨none, 0, e, ⟨⟨by simp, by simp, fun _ => rfl, fun hp => absurd hp (by simp), by omega⟩, fun i hi => absurd hi (by simp), fun i hi => absurd hi (by simp), fun i hi => absurd hi (by simp)⟩⟩
  · subst e
    refine ⟨_, _, rfl, ⟨by simpa using hnc, by simpa using hx, by simp, fun _ => ⟨g', 0, rfl, hbg⟩, by unfold maxLen at hcm; omega⟩, fun i hi bl ol e k hk => ?_, fun i hi => ?_, fun i hi => ?_⟩
    · simp only [Option.some.injEq, Addr.mk.injEq, and_true] at e
      obtain ⟨rfl, rfl⟩ := e
      have hi' : i < K.length := by simpa using hi
      have hi2 : i < (K.map qrow).length := by simpa using hi
      have er : (K.map qrow)[i] = #[Value.string ((K.map strip)[i]).1] ++ ((K[i]?).map (·.2.2)).getD #[] := by simp [qrow, strip, List.getElem?_eq_getElem hi']
      have hk7 : k < ((K.map qrow)[i]).size := by rw [er]; exact hk
      have h7 := h.rowsize _ (List.getElem_mem hi2)
      have hlt : i * 7 + k < K.length * 7 := by omega
      have := flat_get (K.map qrow) h.rowsize i hi2 k hk7
      rw [Nat.zero_add, hown.cellAt (i * 7 + k) hlt, flatQ, this]
      exact congrArg some (get_congr er k _ _)
    · have hi' : i < K.length := by simpa using hi
      simpa [strip] using h.keys i hi'
    · have hi' : i < K.length := by simpa using hi
      have := (h.each i hi').weaken (R' := fun b => base ≤ b) fun b hb => hb.1
      simpa [strip, List.getElem?_eq_getElem hi'] using this

end Go.Proofs.Ytfmlhdkodnbfaaa
