/-
  The reference's Get.
-/
import Derived.Test.YtnfmmgbghbaecaaLawCompares
import Derived.Test.YtnfmmgbghbaecaaPutsM
import Derived.Test.YtnfmmgbghbaecaaPathRM
import Derived.Test.YtnfmmgbghbaecaaMakesM
set_option linter.unusedVariables false
set_option linter.unusedSimpArgs false
namespace Go.Proofs.Ytnfmmgbghbaecaa
open Go.RowKit Go.Sort

theorem one_boxL {w w1 : World} {cs : Array Value} {ty : TypeId} (h : Below (w.alloc (.cells cs ty)).heap.size (w.alloc (.cells cs ty)) w1) :
    (∀ j, w1.cell? ⟨w.heap.size, j, none⟩ = cs[j]?) ∧ (∀ j, w1.frozen? ⟨w.heap.size, j, none⟩ = false) :=
  ⟨fun j => by rw [h.cell (p := ⟨w.heap.size, j, none⟩) (by simp), World.cell?_alloc_new], fun j => by rw [h.frozen (p := ⟨w.heap.size, j, none⟩) (by simp), World.frozen?_alloc_new]⟩
theorem alloc_snd {v w : World} {cs zs : Array Value} {ty tz : TypeId} (h : Below ((v.alloc (.cells cs ty)).alloc (.cells zs tz)).heap.size ((v.alloc (.cells cs ty)).alloc (.cells zs tz)) w) :
    (∀ j, w.cell? ⟨v.heap.size + 1, j, none⟩ = zs[j]?) ∧ (∀ j, w.frozen? ⟨v.heap.size + 1, j, none⟩ = false) ∧ Below v.heap.size v w ∧ v.heap.size + 1 < w.heap.size := by
  have e : (v.alloc (.cells cs ty)).heap.size = v.heap.size + 1 := by simp
  have y := one_boxL (w := v.alloc (.cells cs ty)) h
  rw [e] at y
  refine ⟨y.1, y.2, bstep ((Below.refl _ _).alloc (Nat.le_refl _) (.cells cs ty)) (bstep ((Below.refl _ _).alloc (Nat.le_refl _) (.cells zs tz)) h (by simp)) (by simp), ?_⟩
  have := h.size
  simp at this
  omega
theorem findR_at {key : ByteArray} : ∀ (m : Prs) (j : Nat) (hj : j < m.length), (∀ i (hi : i < m.length), i < j → m[i].1 ≠ key) → m[j].1 = key → findR key m = some m[j].2
  | p :: r, 0, _, _, he => findR_here he
  | p :: r, j + 1, hj, h0, he => by
    rw [findR_skip (by have := h0 0 (by simp) (by omega); exact this)]
    exact findR_at r j (by simpa using hj) (fun i hi hij => by have := h0 (i + 1) (by simpa using hi) (by omega); simpa using this) (by simpa using he)
theorem findR_no {key : ByteArray} {m : Prs} (h : ∀ i (hi : i < m.length), i < m.length → m[i].1 ≠ key) : findR key m = none := findR_none fun q hq => by
  obtain ⟨i, hi, rfl⟩ := List.getElem_of_mem hq
  exact h i hi hi

/-- What the reference's Get hands back. -/
def RGot (w0 : World) (R : Nat → Prop) (w : World) (r : Option T) (e : Ending) (w' : World) : Prop := ∃ ds, e = .returned (.tuple #[.agg ds, .bool r.isSome]) ∧ Lies w' (fun b => R b ∧ b < w0.heap.size) (r.getD T.nil) ds ∧ Below w.heap.size w w'

set_option maxRecDepth 100000 in
set_option maxHeartbeats 2000000 in
theorem rGet_any {w0 : World} {R : Nat → Prop} {t : T} {cs : Array Value} (h : Lies w0 R t cs) (key : ByteArray) (w : World) (hw : Below w0.heap.size w0 w) :
    Calls Try.prog 37 #[.agg cs, .string key] w (RGot w0 R w (findR key t.map)) := by
  cases h with
  | mk k b n s l m la lc ma mc cl cm hk hn hs hl hm rl rm ks il im =>
    have HM : Hid (SliceP w0 R m ma mc cm) := ⟨hm, rm, ks, im⟩
    have FA := Lib.hid (findR_at (key := key) m)
    have FN := Lib.hid (findR_no (key := key) (m := m))
    have hle := hm.le
    have hbig := hm.big
    have hmap : (T.mk k b n s l m).map = m := rfl
    rw [hmap]
    have A2 := Lib.hid (((Below.refl w.heap.size w).alloc (Nat.le_refl _) (.cells #[.int .i64 k, .bool b, .int .i64 n, .string s, .slice la l.length lc, .slice ma m.length mc] 25)).alloc (by simp) (.cells #[.int .i64 0, .bool false, .int .i64 0, .string ⟨#[]⟩, .slice none 0 0, .slice none 0 0] 25))
    obtain ⟨y3, y4, _, hlt⟩ := alloc_snd (v := w) (cs := #[.int .i64 k, .bool b, .int .i64 n, .string s, .slice la l.length lc, .slice ma m.length mc]) (zs := #[.int .i64 0, .bool false, .int .i64 0, .string ⟨#[]⟩, .slice none 0 0, .slice none 0 0]) (ty := 25) (tz := 25) (Below.refl _ _)
    have x5 : ((w.alloc (.cells #[.int .i64 k, .bool b, .int .i64 n, .string s, .slice la l.length lc, .slice ma m.length mc] 25)).alloc (.cells #[.int .i64 0, .bool false, .int .i64 0, .string ⟨#[]⟩, .slice none 0 0, .slice none 0 0] 25)).cell? ⟨w.heap.size, 5, none⟩ = some (.slice ma m.length mc) := (one_boxL ((Below.refl _ _).alloc (Nat.le_refl _) _)).1 5
    clear hk hn hs hl hm rl rm ks il im hmap
    obtain ⟨dd, hu, hdd⟩ := Try.structV
    have DD := Lib.hid hdd
    have HU := Lib.hid hu
    clear hu hdd
    go_enter Try.func37, Try.ntmps37
    go_wp2_with fail
    generalize hv : (w.alloc (.cells #[.int .i64 k, .bool b, .int .i64 n, .string s, .slice la l.length lc, .slice ma m.length mc] 25)).alloc (.cells #[.int .i64 0, .bool false, .int .i64 0, .string ⟨#[]⟩, .slice none 0 0, .slice none 0 0] 25) = v at *
    have Y3 := Lib.hid y3
    have Y4 := Lib.hid y4
    have HLT := Lib.hid hlt
    have HW := Lib.hid (bstep hw A2.out hw.size)
    clear hv y3 y4 hlt
    go_loopw [6] (fun vi wr => ∃ j : Nat, j ≤ m.length ∧ vi = .int .i64 j ∧ Hid (∀ i (hi : i < m.length), i < j → m[i].1 ≠ key) ∧ wr = v) (fun vi _ => m.length - (intOf vi).toNat)
    case atStart => exact ⟨0, by omega, rfl, fun i _ hi => absurd hi (Nat.not_lt_zero _), rfl⟩
    case round =>
      obtain ⟨j, hj, rfl, h0, rfl⟩ := hrel
      by_cases hjl : j < m.length
      · obtain ⟨bl, ol, c0, c1, c2, c3, c4, c4l, c4c, c5, c5l, c5c, rfl, hc, r0, r1, r2, r3, r4, r5, r6⟩ := openM HW.out HM.out.hdr HM.out.rows hjl (HM.out.each j hjl)
        have hLx := HM.out.each j hjl
        rw [hc] at hLx
        have HLX := Lib.hid hLx
        clear hc hLx
        by_cases he : m[j].1 = key
        · have f1 : (m[j].1.toList == key.toList) = true := by rw [he]; simp
          have HE := Lib.hid (FA.out j hjl h0.out he)
          have z2 := Y3.out
          have f2 := Y4.out
          clear he
          go_wp2_with fail
          rw [HE.out]
          have hl2 := HLT.out
          refine ret_cells_tmp wr (w.heap.size + 1) [.int .i64 c0, .bool c1, .int .i64 c2, .string c3, .slice c4 c4l c4c, .slice c5 c5l c5c] rfl Try.results37 rfl rfl DD.out HU.out Try.sizeV (fun i hi => ⟨_, (Y3.out i).trans (Array.getElem?_eq_getElem (show i < 6 from hi))⟩) ?_
          exact ⟨_, rfl, ((HLX.out.bound.later HW.out).keep (fun x hx => setRow_heap _ [.int .i64 c0, .bool c1, .int .i64 c2, .string c3, .slice c4 c4l c4c, .slice c5 c5l c5c] _ _ _ (by have := hx.2; have := hw.size; omega))), setRow_below _ (by omega) [.int .i64 c0, .bool c1, .int .i64 c2, .string c3, .slice c4 c4l c4c, .slice c5 c5l c5c] _ _ A2.out⟩
        · have f1 := str_ne he
          have H1 : Hid (∀ i (hi : i < m.length), i < j + 1 → m[i].1 ≠ key) := fun i hi hij => by
            by_cases e : i = j
            · subst e; exact he
            · exact h0.out i hi (by omega)
          clear he
          go_wp2_with fail
          go_roundw
          case rel => exact ⟨j + 1, by omega, by go_num, H1, trivial⟩
          case measure => simp [intOf]; omega
      · obtain rfl : j = m.length := by omega
        have HE := Lib.hid (FN.out h0.out)
        have z2 := Y3.out
        have f2 := Y4.out
        go_wp2_with fail
        rw [HE.out]
        have hl2 := HLT.out
        refine ret_cells_tmp wr (w.heap.size + 1) [.int .i64 0, .bool false, .int .i64 0, .string ⟨#[]⟩, .slice none 0 0, .slice none 0 0] rfl Try.results37 rfl rfl DD.out HU.out Try.sizeV (fun i hi => ⟨_, (Y3.out i).trans (Array.getElem?_eq_getElem (show i < 6 from hi))⟩) ?_
        exact ⟨_, rfl, nil_lies _ _, setRow_below _ (by omega) [.int .i64 0, .bool false, .int .i64 0, .string ⟨#[]⟩, .slice none 0 0, .slice none 0 0] _ _ A2.out⟩

end Go.Proofs.Ytnfmmgbghbaecaa

/-
  Slices of pairs of one's own, as they grow; package layer's gone.
-/
set_option linter.unusedVariables false
set_option linter.unusedSimpArgs false
namespace Go.Proofs.Ytnfmmgbghbaecaa
open Go.RowKit Go.Sort

/-- append to a slice of one's own, as one step of a region that draws its order. -/
theorem step_append_own {P : Program} {ops : Array Oper} {o : Oper} {a : Act} {w : World} {K : Act → World → Prop} {Q : Exit → Act → World → Prop} {E : Prop}
    (hg : o.guard = none) (s x : Operand) (t : TypeId) (hop : o.op = Op.call { callee := Callee.builtin Builtin.append, args := #[s, x], argTypes := #[t, t] })
    (base : Nat) (e : TypeId) (i : TypeInfo) (z : Value) (size bytes : Nat) (ht : P.underlying t = some (.slice e)) (hi : P.info? e = some i) (hz : i.zero = some z)
    (hsize : i.size = size) (hby : i.bytes = bytes) (hzs : z.cells.size = size) (hsz : 0 < size)
    (v : Value) (n : Nat) (xs : List Value) (hs : a.eval s = v) (hown : w.ownsRow base e size v n xs)
    (ad : Addr) (m c : Nat) (news : List Value) (hx : a.eval x = .slice (some ad) m c) (hl : news.length = m * size) (hnews : ∀ j u, news[j]? = some u → w.cell? (ad.add j) = some u) (h1 : ∀ u ∈ news, u.oneCell' = true)
    (h63 : n + m ≤ maxLen) (hbytes : (n + m) * bytes ≤ 140737488355328) (hbase : base ≤ w.heap.size)
    (hK : ∀ v' w', w'.ownsRow base e size v' (n + m) (xs ++ news) → w.grownBy w' v.ownBlock → (v'.ownBlock = v.ownBlock ∨ v'.ownBlock = some w.heap.size) → K (a.put o.dst v') w') :
    if Region.wanted o (yielded ops a.tmps) = true then Oper.wp P o a w K Q else E := by
  have hw : Region.wanted o (yielded ops a.tmps) = true := by simp [Region.wanted, hg]
  rw [if_pos hw]
  obtain ⟨v', w', hr, h2, h3, h4, h5⟩ := run_append_own_at (P := P) w base t o.type e i z size bytes ht hi hz hsize hby hzs hsz v n xs hown ad m c news hl hnews h1 h63 hbytes hbase
  unfold Oper.wp
  simp [execOp, hop, resolve, invoke, builtin, hs, hx, hr, Result.andThen]
  exact hK v' w' h2 h3 h5

/-- append to a slice of one's own, of one that may be nil. -/
theorem wpList_append_own_any {P : Program} (w : World) {ops : Array Oper} {rest : List Oper} {o : Oper} {a : Act} {Q : Exit → Act → World → Prop} (hgd : o.guard = none) (s x : Operand) (t : TypeId)
    (ho : o.op = .call { callee := .builtin .append, args := #[s, x], argTypes := #[t, t] })
    (base : Nat) (e : TypeId) (i : TypeInfo) (z : Value) (size bytes : Nat) (ht : P.underlying t = some (.slice e)) (hi : P.info? e = some i) (hz : i.zero = some z)
    (hsize : i.size = size) (hby : i.bytes = bytes) (hzs : z.cells.size = size) (hsz : 0 < size)
    (v : Value) (n : Nat) (xs : List Value) (hs : a.eval s = v) (hown : w.ownsRow base e size v n xs)
    (ao : Option Addr) (m c : Nat) (news : List Value) (hx : a.eval x = .slice ao m c) (hl : news.length = m * size) (hnone : ao = none → m = 0 ∧ c = 0)
    (hnews : ∀ ad, ao = some ad → ∀ j u, news[j]? = some u → w.cell? (ad.add j) = some u) (h1 : ∀ u ∈ news, u.oneCell' = true)
    (h63 : n + m ≤ maxLen) (hbytes : (n + m) * bytes ≤ 140737488355328) (hbase : base ≤ w.heap.size)
    (h : ∀ v' w', w'.ownsRow base e size v' (n + m) (xs ++ news) → w.grownBy w' v.ownBlock → (v'.ownBlock = v.ownBlock ∨ v'.ownBlock = some w.heap.size) → wpList P ops Q rest (a.put o.dst v') w') :
    wpList P ops Q (o :: rest) a w := by
  cases ao with
  | some ad => exact wpList_append_own_at w hgd s x t ho base e i z size bytes ht hi hz hsize hby hzs hsz v n xs hs hown ad m c news hx hl (hnews ad rfl) h1 h63 hbytes hbase (fun v' w' a b _ d => h v' w' a b d)
  | none =>
    obtain ⟨rfl, rfl⟩ := hnone rfl
    have hnw : news = [] := List.eq_nil_of_length_eq_zero (by simpa using hl)
    subst hnw
    refine wpList_plain hgd fun K hK' => ?_
    have hrun := run_append_owned_none (P := P) w base t o.type e i size ht hi _ n xs hown
    unfold Oper.wp
    simp [execOp, ho, resolve, invoke, builtin, hs, hx, hrun, Result.andThen]
    exact hK' _ _ (by simpa using h v w (by simpa using hown) (World.grownBy.refl _ _) (.inl rfl))

theorem row_form {w : World} {base : Nat} {e : TypeId} {size : Nat} {v : Value} {n : Nat} {xs : List Value} (h : w.ownsRow base e size v n xs) : ∃ a c, v = .slice a n c := by
  rcases h.2 with ⟨e, hn⟩ | ⟨g, cap, cur, e, _⟩
  · exact ⟨none, 0, by rw [e, hn]⟩
  · exact ⟨_, _, e⟩

/-- An own slice of pairs, as it grows: its values go through blocks of one's own, apart from its rows'. -/
structure OwnV (base : Nat) (w : World) (v : Value) (K : List Q) : Prop where
  own : w.ownsRow base 35 7 v K.length (flatQ K)
  each : ∀ i (h : i < K.length), Lies w (fun b => base ≤ b ∧ b < w.heap.size ∧ v.ownBlock ≠ some b) K[i].2.1 K[i].2.2
  keys : ∀ i (h : i < K.length), K[i].1.size ≤ 140737488355328

theorem OwnV.nil (base : Nat) (w : World) : OwnV base w (.slice none 0 0) [] := ⟨World.ownsRow_nil w base 35 7, fun i h => absurd h (by simp), fun i h => absurd h (by simp)⟩
theorem OwnV.form {base : Nat} {w : World} {v : Value} {K : List Q} (h : OwnV base w v K) : ∃ a c, v = .slice a K.length c ∧ (a = none → K.length = 0 ∧ c = 0) ∧ (∀ x, a = some x → base ≤ x.block ∧ x.block < w.heap.size) := by
  rcases h.own.2 with ⟨e, hn⟩ | ⟨g, cap, cur, e, hb, hg, _⟩
  · exact ⟨none, 0, by rw [e, hn], (fun _ => ⟨hn, rfl⟩), fun x hx => by cases hx⟩
  · refine ⟨some ⟨g, 0, none⟩, cap, e, (fun hx => by cases hx), fun x hx => ?_⟩
    injection hx with hx
    subst hx
    exact ⟨hb, (Array.getElem?_eq_some_iff.1 hg).1⟩
theorem OwnV.block {base : Nat} {w : World} {v : Value} {K : List Q} (h : OwnV base w v K) {g : Nat} (hg : v.ownBlock = some g) : base ≤ g ∧ g < w.heap.size := by
  obtain ⟨a, c, rfl, _, h2⟩ := h.form
  cases a with
  | none => cases hg
  | some x =>
    obtain rfl : x.block = g := by injection hg
    exact h2 x rfl
theorem OwnV.later {base : Nat} {w w' : World} {v : Value} {K : List Q} (h : OwnV base w v K) (hb : Below w.heap.size w w') : OwnV base w' v K :=
  ⟨h.own.kept (grown_of_below hb none) (by
    cases e : v.ownBlock with
    | none => exact .inl rfl
    | some g => exact .inr (by simp)), fun i hi => ((h.each i hi).later hb).weaken fun b hb' => ⟨hb'.1, by have := hb.size; omega, hb'.2.2⟩, h.keys⟩
theorem OwnV.step {base : Nat} {w w' : World} {v v' : Value} {K L : List Q} (h : OwnV base w v K)
    (hL : ∀ i (h : i < L.length), Lies w (fun b => base ≤ b ∧ b < w.heap.size ∧ v.ownBlock ≠ some b) L[i].2.1 L[i].2.2) (hk : ∀ i (h : i < L.length), L[i].1.size ≤ 140737488355328)
    (own : w'.ownsRow base 35 7 v' (K.length + L.length) (flatQ K ++ flatQ L)) (hg : w.grownBy w' v.ownBlock) (hob : v'.ownBlock = v.ownBlock ∨ v'.ownBlock = some w.heap.size) : OwnV base w' v' (K ++ L) := by
  have wk : ∀ {t : T} {ds : Array Value}, Lies w (fun b => base ≤ b ∧ b < w.heap.size ∧ v.ownBlock ≠ some b) t ds → Lies w' (fun b => base ≤ b ∧ b < w'.heap.size ∧ v'.ownBlock ≠ some b) t ds := fun hl =>
    (hl.keepB (w' := w') (fun b hR hlt => hg.block b hlt fun e => hR.2.2 e.symm)).weaken fun b hb => ⟨hb.1.1, by have := hg.size; omega, by
      rcases hob with e | e
      · rw [e]; exact hb.1.2.2
      · rw [e]; intro hx; injection hx with hx; omega⟩
  refine ⟨by simpa [flatQ] using own, fun i hi => ?_, fun i hi => ?_⟩
  · by_cases hij : i < K.length
    · have e : (K ++ L)[i] = K[i] := List.getElem_append_left hij
      rw [e]
      exact wk (h.each i hij)
    · have e : (K ++ L)[i] = L[i - K.length]'(by simp at hi; omega) := List.getElem_append_right (by omega)
      rw [e]
      exact wk (hL _ _)
  · by_cases hij : i < K.length
    · have e : (K ++ L)[i] = K[i] := List.getElem_append_left hij
      rw [e]
      exact h.keys i hij
    · have e : (K ++ L)[i] = L[i - K.length]'(by simp at hi; omega) := List.getElem_append_right (by omega)
      rw [e]
      exact hk _ _
theorem OwnV.rowsize {base : Nat} {w : World} {v : Value} {K : List Q} (h : OwnV base w v K) : ∀ d ∈ K.map qrow, d.size = 7 := fun d hd => by
  obtain ⟨q, hq, rfl⟩ := List.mem_map.1 hd
  obtain ⟨i, hi, rfl⟩ := List.getElem_of_mem hq
  have := (h.each i hi).size6
  simp [qrow, this]
theorem OwnV.done {base : Nat} {w : World} {v : Value} {K : List Q} (h : OwnV base w v K) (hx : K.length * 104 ≤ 140737488355328) :
    ∃ a cap, v = .slice a K.length cap ∧ SliceP w (fun b => base ≤ b) (K.map strip) a cap (fun i => ((K[i]?).map (·.2.2)).getD #[]) := by
  have hown := h.own
  rcases hown.2 with ⟨e, hn⟩ | ⟨g', cap', cur, e, hbg, hgc, hnc, hcm, hcs, htake⟩
  · have hK : K = [] := List.eq_nil_of_length_eq_zero hn
    subst hK
    exact ⟨none, 0, e, ⟨⟨by simp, by simp, fun _ => rfl, fun hp => absurd hp (by simp), by omega⟩, fun i hi => absurd hi (by simp), fun i hi => absurd hi (by simp), fun i hi => absurd hi (by simp)⟩⟩
  · subst e
    refine ⟨_, _, rfl, ⟨by simpa using hnc, by simpa using hx, by simp, fun _ => ⟨g', 0, rfl, hbg⟩, by unfold maxLen at hcm; omega⟩, fun i hi bl ol e k hk => ?_, fun i hi => ?_, fun i hi => ?_⟩
    · simp only [Option.some.injEq, Addr.mk.injEq, and_true] at e
      obtain ⟨rfl, rfl⟩ := e
      have hi' : i < K.length := by simpa using hi
      have hi2 : i < (K.map qrow).length := by simpa using hi
      have er : (K.map qrow)[i] = #[Value.string ((K.map strip)[i]).1] ++ ((K[i]?).map (·.2.2)).getD #[] := by simp [qrow, strip, List.getElem?_eq_getElem hi']
      have hk7 : k < ((K.map qrow)[i]).size := by rw [er]; exact hk
      have h7 := h.rowsize _ (List.getElem_mem hi2)
      have hlt : i * 7 + k < K.length * 7 := by omega
      have := flat_get (K.map qrow) h.rowsize i hi2 k hk7
      rw [Nat.zero_add, hown.cellAt (i * 7 + k) hlt, flatQ, this]
      exact congrArg some (get_congr er k _ _)
    · have hi' : i < K.length := by simpa using hi
      simpa [strip] using h.keys i hi'
    · have hi' : i < K.length := by simpa using hi
      have := (h.each i hi').weaken (R' := fun b => base ≤ b) fun b hb => hb.1
      simpa [strip, List.getElem?_eq_getElem hi'] using this

end Go.Proofs.Ytnfmmgbghbaecaa

/-
  The reference's Put.
-/
set_option linter.unusedVariables false
set_option linter.unusedSimpArgs false
namespace Go.Proofs.Ytnfmmgbghbaecaa
open Go.RowKit Go.Sort

/-- Pairs with one laid among them, as the reference goes through them. -/
def rputG (key : ByteArray) (x : T) : Bool → Prs → Prs
  | laid, [] => if laid = true then [] else [(key, x)]
  | laid, p :: r => (if ltS p.1 key = false ∧ laid = false then [(key, x)] else []) ++ ((if p.1 = key then [] else [p]) ++ rputG key x (laid || !ltS p.1 key) r)
theorem rputG_true {key : ByteArray} (x : T) : ∀ {m : Prs}, (∀ q ∈ m, q.1 ≠ key) → rputG key x true m = m
  | [], _ => rfl
  | p :: r, h => by
    rw [rputG, if_neg (by simp), if_neg (h p (by simp)), Bool.true_or, rputG_true x fun q hq => h q (by simp [hq])]
    rfl
theorem rputG_put (key : ByteArray) (x : T) : ∀ {m : Prs}, Asc m → rputG key x false m = putR key x m
  | [], _ => rfl
  | p :: r, h => by
    rcases putR_cases p key with ⟨hl, hn⟩ | he | ⟨hl, hn⟩
    · rw [putR_lt hl, rputG, if_neg (by simp [hl]), if_neg hn, hl]
      show [] ++ ([p] ++ rputG key x false r) = _
      rw [rputG_put key x h.tail]
      rfl
    · have hl : ltS p.1 key = false := by rw [he, ltS_irr]
      rw [putR_eq he, rputG, if_pos ⟨hl, rfl⟩, if_pos he, hl]
      show [(key, x)] ++ ([] ++ rputG key x true r) = _
      rw [rputG_true x fun q hq e => by have := h.head q hq; rw [e, he, ltS_irr] at this; cases this]
      rfl
    · rw [putR_gt hl hn, rputG, if_pos ⟨hl, rfl⟩, if_neg hn, hl]
      show [(key, x)] ++ ([p] ++ rputG key x true r) = _
      rw [rputG_true x fun q hq e => by have := ltS_trans (ltS_total hl hn) (h.head q hq); rw [e, ltS_irr] at this; cases this]
      rfl
theorem drop_cons {α : Type} (l : List α) (j : Nat) (h : j < l.length) : l.drop j = l[j] :: l.drop (j + 1) := List.drop_eq_getElem_cons h
theorem rputG_next (key : ByteArray) (x : T) (laid : Bool) (m : Prs) (j : Nat) (hj : j < m.length) : rputG key x laid (m.drop j) = (if ltS m[j].1 key = false ∧ laid = false then [(key, x)] else []) ++ ((if m[j].1 = key then [] else [m[j]]) ++ rputG key x (laid || !ltS m[j].1 key) (m.drop (j + 1))) := by
  rw [drop_cons m j hj, rputG]

/-- A slice of pairs of one's own, whose values go through such blocks, but not through this one. -/
structure OwnW (S : Nat → Prop) (ex : Nat) (w : World) (v : Value) (K : List Q) : Prop where
  own : w.ownsRow (ex + 1) 35 7 v K.length (flatQ K)
  each : ∀ i (h : i < K.length), Lies w (fun b => S b ∧ b < w.heap.size ∧ v.ownBlock ≠ some b ∧ b ≠ ex) K[i].2.1 K[i].2.2
  keys : ∀ i (h : i < K.length), K[i].1.size ≤ 140737488355328
theorem OwnW.nil (S : Nat → Prop) (ex : Nat) (w : World) : OwnW S ex w (.slice none 0 0) [] := ⟨World.ownsRow_nil w (ex + 1) 35 7, fun i h => absurd h (by simp), fun i h => absurd h (by simp)⟩
theorem OwnW.block {S : Nat → Prop} {ex : Nat} {w : World} {v : Value} {K : List Q} (h : OwnW S ex w v K) {g : Nat} (hg : v.ownBlock = some g) : ex < g ∧ g < w.heap.size := by
  rcases h.own.2 with ⟨e, hn⟩ | ⟨g', cap, cur, e, hb, hg', _⟩
  · rw [e] at hg; cases hg
  · rw [e] at hg
    obtain rfl : g' = g := by injection hg
    exact ⟨hb, (Array.getElem?_eq_some_iff.1 hg').1⟩
/-- What keeps all but one block. -/
theorem OwnW.keep {S : Nat → Prop} {ex : Nat} {w w' : World} {v : Value} {K : List Q} (h : OwnW S ex w v K) (hb : ∀ b, b < w.heap.size → b ≠ ex → w'.heap[b]? = w.heap[b]?) (hs : w.heap.size ≤ w'.heap.size) : OwnW S ex w' v K := by
  refine ⟨⟨h.own.1, ?_⟩, fun i hi => ((h.each i hi).keepB (fun b hR hlt => hb b hlt hR.2.2.2)).weaken fun b hb' => ⟨hb'.1.1, by have := hb'.1.2.1; omega, hb'.1.2.2.1, hb'.1.2.2.2⟩, h.keys⟩
  rcases h.own.2 with h1 | ⟨g, cap, cur, e, hbg, hg, hr⟩
  · exact .inl h1
  · exact .inr ⟨g, cap, cur, e, hbg, by rw [hb g (Array.getElem?_eq_some_iff.1 hg).1 (by omega)]; exact hg, hr⟩
theorem OwnW.later {S : Nat → Prop} {ex : Nat} {w w' : World} {v : Value} {K : List Q} (h : OwnW S ex w v K) (hb : Below w.heap.size w w') : OwnW S ex w' v K := h.keep (fun b hlt _ => hb.block b hlt) hb.size
theorem OwnW.step {S : Nat → Prop} {ex : Nat} {w w' : World} {v v' : Value} {K L : List Q} (h : OwnW S ex w v K)
    (hL : ∀ i (h : i < L.length), Lies w (fun b => S b ∧ b < w.heap.size ∧ v.ownBlock ≠ some b ∧ b ≠ ex) L[i].2.1 L[i].2.2) (hk : ∀ i (h : i < L.length), L[i].1.size ≤ 140737488355328)
    (own : w'.ownsRow (ex + 1) 35 7 v' (K.length + L.length) (flatQ K ++ flatQ L)) (hg : w.grownBy w' v.ownBlock) (hob : v'.ownBlock = v.ownBlock ∨ v'.ownBlock = some w.heap.size) : OwnW S ex w' v' (K ++ L) := by
  have wk : ∀ {t : T} {ds : Array Value}, Lies w (fun b => S b ∧ b < w.heap.size ∧ v.ownBlock ≠ some b ∧ b ≠ ex) t ds → Lies w' (fun b => S b ∧ b < w'.heap.size ∧ v'.ownBlock ≠ some b ∧ b ≠ ex) t ds := fun hl =>
    (hl.keepB (w' := w') (fun b hR hlt => hg.block b hlt fun e => hR.2.2.1 e.symm)).weaken fun b hb => ⟨hb.1.1, by have := hg.size; omega, by
      rcases hob with e | e
      · rw [e]; exact hb.1.2.2.1
      · rw [e]; intro hx; injection hx with hx; omega, hb.1.2.2.2⟩
  refine ⟨by simpa [flatQ] using own, fun i hi => ?_, fun i hi => ?_⟩
  · by_cases hij : i < K.length
    · have e : (K ++ L)[i] = K[i] := List.getElem_append_left hij
      rw [e]
      exact wk (h.each i hij)
    · have e : (K ++ L)[i] = L[i - K.length]'(by simp at hi; omega) := List.getElem_append_right (by omega)
      rw [e]
      exact wk (hL _ _)
  · by_cases hij : i < K.length
    · have e : (K ++ L)[i] = K[i] := List.getElem_append_left hij
      rw [e]
      exact h.keys i hij
    · have e : (K ++ L)[i] = L[i - K.length]'(by simp at hi; omega) := List.getElem_append_right (by omega)
      rw [e]
      exact hk _ _
theorem OwnW.one {S : Nat → Prop} {ex : Nat} {w w' : World} {v v' : Value} {K : List Q} {key : ByteArray} {x : T} {ds : Array Value} (h : OwnW S ex w v K) (hx : Lies w (fun b => S b ∧ b < w.heap.size ∧ v.ownBlock ≠ some b ∧ b ≠ ex) x ds) (hk : key.size ≤ 140737488355328)
    (own : w'.ownsRow (ex + 1) 35 7 v' (K.length + 1) (flatQ K ++ (#[Value.string key] ++ ds).toList)) (hg : w.grownBy w' v.ownBlock) (hob : v'.ownBlock = v.ownBlock ∨ v'.ownBlock = some w.heap.size) : OwnW S ex w' v' (K ++ [(key, x, ds)]) :=
  h.step (L := [(key, x, ds)]) (fun i hi => by
    obtain rfl : i = 0 := by simp at hi; omega
    exact hx) (fun i hi => by
    obtain rfl : i = 0 := by simp at hi; omega
    exact hk) (by simpa [flatQ, qrow] using own) hg hob
theorem OwnW.done {S : Nat → Prop} {ex : Nat} {w : World} {v : Value} {K : List Q} (h : OwnW S ex w v K) (hx : K.length * 104 ≤ 140737488355328) :
    ∃ a cap cm, v = .slice a K.length cap ∧ SliceP w (fun b => (S b ∨ ex < b) ∧ b ≠ ex) (K.map strip) a cap cm := by
  have hrs : ∀ d ∈ K.map qrow, d.size = 7 := fun d hd => by
    obtain ⟨q, hq, rfl⟩ := List.mem_map.1 hd
    obtain ⟨i, hi, rfl⟩ := List.getElem_of_mem hq
    have := (h.each i hi).size6
    simp [qrow, this]
  have hown := h.own
  rcases hown.2 with ⟨e, hn⟩ | ⟨g', cap', cur, e, hbg, hgc, hnc, hcm, hcs, htake⟩
  · have hK : K = [] := List.eq_nil_of_length_eq_zero hn
    subst hK
    exact ⟨none, 0, fun _ => #[], e, ⟨⟨by simp, by simp, fun _ => rfl, fun hp => absurd hp (by simp), by omega⟩, fun i hi => absurd hi (by simp), fun i hi => absurd hi (by simp), fun i hi => absurd hi (by simp)⟩⟩
  · subst e
    refine ⟨_, _, fun i => ((K[i]?).map (·.2.2)).getD #[], rfl, ⟨by simpa using hnc, by simpa using hx, by simp, fun _ => ⟨g', 0, rfl, .inr hbg, by omega⟩, by unfold maxLen at hcm; omega⟩, fun i hi bl ol e k hk => ?_, fun i hi => ?_, fun i hi => ?_⟩
    · simp only [Option.some.injEq, Addr.mk.injEq, and_true] at e
      obtain ⟨rfl, rfl⟩ := e
      have hi' : i < K.length := by simpa using hi
      have hi2 : i < (K.map qrow).length := by simpa using hi
      have er : (K.map qrow)[i] = #[Value.string ((K.map strip)[i]).1] ++ ((K[i]?).map (·.2.2)).getD #[] := by simp [qrow, strip, List.getElem?_eq_getElem hi']
      have hk7 : k < ((K.map qrow)[i]).size := by rw [er]; exact hk
      have h7 := hrs _ (List.getElem_mem hi2)
      have hlt : i * 7 + k < K.length * 7 := by omega
      have := flat_get (K.map qrow) hrs i hi2 k hk7
      rw [Nat.zero_add, hown.cellAt (i * 7 + k) hlt, flatQ, this]
      exact congrArg some (get_congr er k _ _)
    · have hi' : i < K.length := by simpa using hi
      simpa [strip] using h.keys i hi'
    · have hi' : i < K.length := by simpa using hi
      have := (h.each i hi').weaken (R' := fun b => (S b ∨ ex < b) ∧ b ≠ ex) fun b hb => ⟨.inl hb.1, hb.2.2.2⟩
      simpa [strip, List.getElem?_eq_getElem hi'] using this

end Go.Proofs.Ytnfmmgbghbaecaa
