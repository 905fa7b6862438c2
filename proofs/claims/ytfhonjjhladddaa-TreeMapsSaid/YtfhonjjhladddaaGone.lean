/-
  Slices of pairs of one's own, as they grow; package layer's gone.
-/
import Derived.Test.YtfhonjjhladddaaLawOrdersM
import Derived.Test.YtfhonjjhladddaaAllM
import Derived.Test.YtfhonjjhladddaaDiffP
set_option linter.unusedVariables false
set_option linter.unusedSimpArgs false
namespace Go.Proofs.Ytfhonjjhladddaa
open Go.RowKit Go.Sort

/-- append to a slice of one's own, as one step of a region that draws its order. -/
theorem step_append_own {P : Program} {ops : Array Oper} {o : Oper} {a : Act} {w : World} {K : Act → World → Prop} {Q : Exit → Act → World → Prop} {E : Prop}
    (hg : o.guard = none) (s x : Operand) (t : TypeId) (hop : o.op = Op.call { callee := Callee.builtin Builtin.append, args := #[s, x], argTypes := #[t, t] })
    (base : Nat) (e : TypeId) (i : TypeInfo) (z : Value) (size bytes : Nat) (ht : P.underlying t = some (.slice e)) (hi : P.info? e = some i) (hz : i.zero = some z)
    (hsize : i.size = size) (hby : i.bytes = bytes) (hzs : z.cells.size = size) (hsz : 0 < size)
    (v : Value) (n : Nat) (xs : List Value) (hs : a.eval s = v) (hown : w.ownsRow base e size v n xs)
    (ad : Addr) (m c : Nat) (news : List Value) (hx : a.eval x = .slice (some ad) m c) (hl : news.length = m * size) (hnews : ∀ j u, news[j]? = some u → w.cell? (ad.add j) = some u) (h1 : ∀ u ∈ news, u.oneCell' = true)
    (h63 : n + m ≤ maxLen) (hbytes : (n + m) * bytes ≤ 140737488355328) (hbase : base ≤ w.heap.size)
    (hK : ∀ v' w', w'.ownsRow base e size v' (n + m) (xs ++ news) → w.grownBy w' v.ownBlock → (v'.ownBlock = v.ownBlock ∨ v'.ownBlock = some w.heap.size) → K (a.put o.dst v') w') :
    if Region.wanted o (yielded ops a.tmps) = true then Oper.wp P o a w K Q else E := by
  have hw : Region.wanted o (yielded ops a.tmps) = true := by simp [Region.wanted, hg]
  rw [if_pos hw]
  obtain ⟨v', w', hr, h2, h3, h4, h5⟩ := run_append_own_at (P := P) w base t o.type e i z size bytes ht hi hz hsize hby hzs hsz v n xs hown ad m c news hl hnews h1 h63 hbytes hbase
  unfold Oper.wp
  simp [execOp, hop, resolve, invoke, builtin, hs, hx, hr, Result.andThen]
  exact hK v' w' h2 h3 h5

/-- append to a slice of one's own, of one that may be nil. -/
theorem wpList_append_own_any {P : Program} (w : World) {ops : Array Oper} {rest : List Oper} {o : Oper} {a : Act} {Q : Exit → Act → World → Prop} (hgd : o.guard = none) (s x : Operand) (t : TypeId)
    (ho : o.op = .call { callee := .builtin .append, args := #[s, x], argTypes := #[t, t] })
    (base : Nat) (e : TypeId) (i : TypeInfo) (z : Value) (size bytes : Nat) (ht : P.underlying t = some (.slice e)) (hi : P.info? e = some i) (hz : i.zero = some z)
    (hsize : i.size = size) (hby : i.bytes = bytes) (hzs : z.cells.size = size) (hsz : 0 < size)
    (v : Value) (n : Nat) (xs : List Value) (hs : a.eval s = v) (hown : w.ownsRow base e size v n xs)
    (ao : Option Addr) (m c : Nat) (news : List Value) (hx : a.eval x = .slice ao m c) (hl : news.length = m * size) (hnone : ao = none → m = 0 ∧ c = 0)
    (hnews : ∀ ad, ao = some ad → ∀ j u, news[j]? = some u → w.cell? (ad.add j) = some u) (h1 : ∀ u ∈ news, u.oneCell' = true)
    (h63 : n + m ≤ maxLen) (hbytes : (n + m) * bytes ≤ 140737488355328) (hbase : base ≤ w.heap.size)
    (h : ∀ v' w', w'.ownsRow base e size v' (n + m) (xs ++ news) → w.grownBy w' v.ownBlock → (v'.ownBlock = v.ownBlock ∨ v'.ownBlock = some w.heap.size) → wpList P ops Q rest (a.put o.dst v') w') :
    wpList P ops Q (o :: rest) a w := by
  cases ao with
  | some ad => exact wpList_append_own_at w hgd s x t ho base e i z size bytes ht hi hz hsize hby hzs hsz v n xs hs hown ad m c news hx hl (hnews ad rfl) h1 h63 hbytes hbase (fun v' w' a b _ d => h v' w' a b d)
  | none =>
    obtain ⟨rfl, rfl⟩ := hnone rfl
    have hnw : news = [] := List.eq_nil_of_length_eq_zero (by simpa using hl)
    subst hnw
    refine wpList_plain hgd fun K hK' => ?_
    have hrun := run_append_owned_none (P := P) w base t o.type e i size ht hi _ n xs hown
    unfold Oper.wp
    simp [execOp, ho, resolve, invoke, builtin, hs, hx, hrun, Result.andThen]
    exact hK' _ _ (by simpa using h v w (by simpa using hown) (World.grownBy.refl _ _) (.inl rfl))

theorem row_form {w : World} {base : Nat} {e : TypeId} {size : Nat} {v : Value} {n : Nat} {xs : List Value} (h : w.ownsRow base e size v n xs) : ∃ a c, v = .slice a n c := by
  rcases h.2 with ⟨e, hn⟩ | ⟨g, cap, cur, e, _⟩
  · exact ⟨none, 0, by rw [e, hn]⟩
  · exact ⟨_, _, e⟩

/-- An own slice of pairs, as it grows: its values go through blocks of one's own, apart from its rows'. -/
structure OwnV (base : Nat) (w : World) (v : Value) (K : List Q) : Prop where
  own : w.ownsRow base 36 7 v K.length (flatQ K)
  each : ∀ i (h : i < K.length), Lies w (fun b => base ≤ b ∧ b < w.heap.size ∧ v.ownBlock ≠ some b) K[i].2.1 K[i].2.2
  keys : ∀ i (h : i < K.length), K[i].1.size ≤ 140737488355328

theorem OwnV.nil (base : Nat) (w : World) : OwnV base w (.slice none 0 0) [] := ⟨World.ownsRow_nil w base 36 7, fun i h => absurd h (by simp), fun i h => absurd h (by simp)⟩
theorem OwnV.form {base : Nat} {w : World} {v : Value} {K : List Q} (h : OwnV base w v K) : ∃ a c, v = .slice a K.length c ∧ (a = none → K.length = 0 ∧ c = 0) ∧ (∀ x, a = some x → base ≤ x.block ∧ x.block < w.heap.size) := by
  rcases h.own.2 with ⟨e, hn⟩ | ⟨g, cap, cur, e, hb, hg, _⟩
  · exact ⟨none, 0, by rw [e, hn], (fun _ => ⟨hn, rfl⟩), fun x hx => by cases hx⟩
  · refine ⟨some ⟨g, 0, none⟩, cap, e, (fun hx => by cases hx), fun x hx => ?_⟩
    injection hx with hx
    subst hx
    exact ⟨hb, (Array.getElem?_eq_some_iff.1 hg).1⟩
theorem OwnV.block {base : Nat} {w : World} {v : Value} {K : List Q} (h : OwnV base w v K) {g : Nat} (hg : v.ownBlock = some g) : base ≤ g ∧ g < w.heap.size := by
  obtain ⟨a, c, rfl, _, h2⟩ := h.form
  cases a with
  | none => cases hg
  | some x =>
    obtain rfl : x.block = g := by injection hg
    exact h2 x rfl
theorem OwnV.later {base : Nat} {w w' : World} {v : Value} {K : List Q} (h : OwnV base w v K) (hb : Below w.heap.size w w') : OwnV base w' v K :=
  ⟨h.own.kept (grown_of_below hb none) (by
    cases e : v.ownBlock with
    | none => exact .inl rfl
    | some g => exact .inr (by simp)), fun i hi => ((h.each i hi).later hb).weaken fun b hb' => ⟨hb'.1, by have := hb.size; omega, hb'.2.2⟩, h.keys⟩
theorem OwnV.step {base : Nat} {w w' : World} {v v' : Value} {K L : List Q} (h : OwnV base w v K)
    (hL : ∀ i (h : i < L.length), Lies w (fun b => base ≤ b ∧ b < w.heap.size ∧ v.ownBlock ≠ some b) L[i].2.1 L[i].2.2) (hk : ∀ i (h : i < L.length), L[i].1.size ≤ 140737488355328)
    (own : w'.ownsRow base 36 7 v' (K.length + L.length) (flatQ K ++ flatQ L)) (hg : w.grownBy w' v.ownBlock) (hob : v'.ownBlock = v.ownBlock ∨ v'.ownBlock = some w.heap.size) : OwnV base w' v' (K ++ L) := by
  have wk : ∀ {t : T} {ds : Array Value}, Lies w (fun b => base ≤ b ∧ b < w.heap.size ∧ v.ownBlock ≠ some b) t ds → Lies w' (fun b => base ≤ b ∧ b < w'.heap.size ∧ v'.ownBlock ≠ some b) t ds := fun hl =>
    (hl.keepB (w' := w') (fun b hR hlt => hg.block b hlt fun e => hR.2.2 e.symm)).weaken fun b hb => ⟨hb.1.1, by have := hg.size; omega, by
      rcases hob with e | e
      · rw [e]; exact hb.1.2.2
      · rw [e]; intro hx; injection hx with hx; omega⟩
  refine ⟨by simpa [flatQ] using own, fun i hi => ?_, fun i hi => ?_⟩
  · by_cases hij : i < K.length
    · have e : (K ++ L)[i] = K[i] := List.getElem_append_left hij
      rw [e]
      exact wk (h.each i hij)
    · have e : (K ++ L)[i] = L[i - K.length]'(by simp at hi; omega) := List.getElem_append_right (by omega)
      rw [e]
      exact wk (hL _ _)
  · by_cases hij : i < K.length
    · have e : (K ++ L)[i] = K[i] := List.getElem_append_left hij
      rw [e]
      exact h.keys i hij
    · have e : (K ++ L)[i] = L[i - K.length]'(by simp at hi; omega) := List.getElem_append_right (by omega)
      rw [e]
      exact hk _ _
theorem OwnV.rowsize {base : Nat} {w : World} {v : Value} {K : List Q} (h : OwnV base w v K) : ∀ d ∈ K.map qrow, d.size = 7 := fun d hd => by
  obtain ⟨q, hq, rfl⟩ := List.mem_map.1 hd
  obtain ⟨i, hi, rfl⟩ := List.getElem_of_mem hq
  have := (h.each i hi).size6
  simp [qrow, this]
theorem OwnV.done {base : Nat} {w : World} {v : Value} {K : List Q} (h : OwnV base w v K) (hx : K.length * 104 ≤ 140737488355328) :
    ∃ a cap, v = .slice a K.length cap ∧ SliceP w (fun b => base ≤ b) (K.map strip) a cap (fun i => ((K[i]?).map (·.2.2)).getD #[]) := by
  have hown := h.own
  rcases hown.2 with ⟨e, hn⟩ | ⟨g', cap', cur, e, hbg, hgc, hnc, hcm, hcs, htake⟩
  · have hK : K = [] := List.eq_nil_of_length_eq_zero hn
    subst hK
    exact ⟨none, 0, e, ⟨⟨by simp, by simp, fun _ => rfl, fun hp => absurd hp (by simp), by omega⟩, fun i hi => absurd hi (by simp), fun i hi => absurd hi (by simp), fun i hi => absurd hi (by simp)⟩⟩
  · subst e
    refine ⟨_, _, rfl, ⟨by simpa using hnc, by simpa using hx, by simp, fun _ => ⟨g', 0, rfl, hbg⟩, by unfold maxLen at hcm; omega⟩, fun i hi bl ol e k hk => ?_, fun i hi => ?_, fun i hi => ?_⟩
    · simp only [Option.some.injEq, Addr.mk.injEq, and_true] at e
      obtain ⟨rfl, rfl⟩ := e
      have hi' : i < K.length := by simpa using hi
      have hi2 : i < (K.map qrow).length := by simpa using hi
      have er : (K.map qrow)[i] = #[Value.string ((K.map strip)[i]).1] ++ ((K[i]?).map (·.2.2)).getD #[] := by simp [qrow, strip, List.getElem?_eq_getElem hi']
      have hk7 : k < ((K.map qrow)[i]).size := by rw [er]; exact hk
      have h7 := h.rowsize _ (List.getElem_mem hi2)
      have hlt : i * 7 + k < K.length * 7 := by omega
      have := flat_get (K.map qrow) h.rowsize i hi2 k hk7
      rw [Nat.zero_add, hown.cellAt (i * 7 + k) hlt, flatQ, this]
      exact congrArg some (get_congr er k _ _)
    · have hi' : i < K.length := by simpa using hi
      simpa [strip] using h.keys i hi'
    · have hi' : i < K.length := by simpa using hi
      have := (h.each i hi').weaken (R' := fun b => base ≤ b) fun b hb => hb.1
      simpa [strip, List.getElem?_eq_getElem hi'] using this

theorem gone_take (ps : Prs) (j : Nat) (h : j < ps.length) : goneR (ps.take (j + 1)) = goneR (ps.take j) ++ [(ps[j].1, T.nil)] := by
  unfold goneR
  rw [List.take_succ_eq_append_getElem h, List.map_append]
  rfl

def nilC : Array Value := #[.int .i64 0, .bool false, .int .i64 0, .string ⟨#[]⟩, .slice none 0 0, .slice none 0 0]
/-- What gone hands back. -/
def GoneIn (w : World) (ps : Prs) (e : Ending) (w' : World) : Prop := ∃ v K, e = .returned v ∧ OwnV w.heap.size w' v K ∧ K.map strip = goneR ps ∧ (∀ q ∈ K, q.2.2 = nilC) ∧ Below w.heap.size w w'

set_option maxRecDepth 100000 in
set_option maxHeartbeats 4000000 in
theorem gone_any {w0 : World} {R : Nat → Prop} {ps : Prs} {a : Option Addr} {cap : Nat} {cm : Nat → Array Value} (h : SliceP w0 R ps a cap cm) (hn : ps.length ≤ 4000000) (w : World) (hw : Below w0.heap.size w0 w) :
    Calls Try.prog 49 #[.slice a ps.length cap] w (GoneIn w ps) := by
  have H := Lib.hid h
  have ll := h.hdr.le
  have lx := h.hdr.big
  have HT := Lib.hid (gone_take ps)
  obtain ⟨i0, hi, hz0, hz1, hz2⟩ := info_parts Try.infoP
  have HI0 := Lib.hid hi
  have HZ0 := Lib.hid hz0
  have HZ1 := Lib.hid hz1
  have HZ2 := Lib.hid hz2
  clear h hi hz0 hz1 hz2
  go_enter Try.func49, Try.ntmps49
  go_wp2_with fail
  go_loopw [3, 5, 8] (fun v3 _ vi wr => ∃ (j : Nat) (av : Option Addr) (cv : Nat) (K : List Q), j ≤ ps.length ∧ vi = .int .i64 j ∧ v3 = .slice av K.length cv ∧ Hid (OwnV w.heap.size wr (.slice av K.length cv) K) ∧ Hid (K.map strip = goneR (ps.take j)) ∧ Hid (∀ q ∈ K, q.2.2 = nilC) ∧ Hid (K.length = j) ∧ Below w.heap.size w wr) (fun _ _ vi _ => ps.length - (intOf vi).toNat)
  case atStart => exact ⟨0, none, 0, [], by omega, rfl, rfl, OwnV.nil _ _, rfl, fun q hq => absurd hq (by simp), rfl, Below.refl _ _⟩
  case round =>
    obtain ⟨j, av, cv, K, hj, rfl, rfl, HK, HS, HC, hKj, hbw⟩ := hrel
    have hbr := bstep hw hbw hw.size
    by_cases hjl : j < ps.length
    · obtain ⟨bl, ol, c0, c1, c2, c3, c4, c4l, c4c, c5, c5l, c5c, rfl, hc, r0, r1, r2, r3, r4, r5, r6⟩ := openM hbr H.out.hdr H.out.rows hjl (H.out.each j hjl)
      have hkj := H.out.keys j hjl
      have hv := Lib.hid ((Below.refl wr.heap.size wr).alloc (Nat.le_refl _) (.cells #[.string ps[j].1, .int .i64 c0, .bool c1, .int .i64 c2, .string c3, .slice c4 c4l c4c, .slice c5 c5l c5c] 36))
      have k0 : (wr.alloc (.cells #[.string ps[j].1, .int .i64 c0, .bool c1, .int .i64 c2, .string c3, .slice c4 c4l c4c, .slice c5 c5l c5c] 36)).cell? ⟨wr.heap.size, 0, none⟩ = some (.string ps[j].1) := by rw [World.cell?_alloc_new]; rfl
      have hsz : Hid ((wr.alloc (.cells #[.string ps[j].1, .int .i64 c0, .bool c1, .int .i64 c2, .string c3, .slice c4 c4l c4c, .slice c5 c5l c5c] 36)).heap.size = wr.heap.size + 1) := by show _ = _; simp
      have HTJ := Lib.hid (HT.out j hjl)
      clear hc
      go_wp2_with fail
      generalize hvv : wr.alloc (.cells #[.string ps[j].1, .int .i64 c0, .bool c1, .int .i64 c2, .string c3, .slice c4 c4l c4c, .slice c5 c5l c5c] 36) = v5 at *
      have HK5 := Lib.hid (HK.out.later hv.out)
      have hsz5 := hsz.out
      have SK : Hid (∀ wx : World, (∀ b, b < v5.heap.size → (Value.slice av K.length cv).ownBlock ≠ some b → wx.heap[b]? = v5.heap[b]?) → wx.cell? ⟨wr.heap.size, 0, none⟩ = some (.string ps[j].1)) := fun wx hx =>
        (World.cell?_of_block (hx wr.heap.size (by omega) (fun e => by have := (HK.out.block e).2; omega))).trans k0
      clear r0 r1 r2 r3 r4 r5 r6 k0 hsz5 hvv
      go_region_held3 (fun wx : World => wx.cell? ⟨wr.heap.size, 0, none⟩ = some (.string ps[j].1))
        (first
          | with_reducible exact SK.out _ hq7
          | with_reducible exact SK.out _ hq6a
          | with_reducible exact SK.out _ hq6
          | exact SK.out _ (fun _ _ _ => rfl)
          | fail)
        (first
          | (go_at_call 45
             with_reducible refine (tNull_any _).mono ?_
             rintro e w6 ⟨rfl, hb6⟩
             have hV6 : Below v5.heap.size v5 w6 := undrew hb6
             have hq6 : ∀ b, b < v5.heap.size → (Value.slice av K.length cv).ownBlock ≠ some b → w6.heap[b]? = v5.heap[b]? := fun b hb _ => hV6.block b hb
             have hq6a : ∀ b, b < v5.heap.size → (Value.slice av K.length cv).ownBlock ≠ some b → (w6.alloc (.cells #[.string ps[j].1, .int .i64 0, .bool false, .int .i64 0, .string ⟨#[]⟩, .slice none 0 0, .slice none 0 0] 36)).heap[b]? = v5.heap[b]? := fun b hb _ => (Below.heap_alloc _ _ _ (Nat.lt_of_lt_of_le hb hV6.size)).trans (hV6.block b hb)
             have HK6 := Lib.hid (HK5.out.later (bbox hV6 (.cells #[.string ps[j].1, .int .i64 0, .bool false, .int .i64 0, .string ⟨#[]⟩, .slice none 0 0, .slice none 0 0] 36) hV6.size)))
          | (refine step_append_own rfl (.tmp 12) (.tmp 17) 23 rfl w.heap.size 36 i0 _ 7 104 Try.underlying23 HI0.out HZ0.out HZ1.out HZ2.out (by rfl) (by decide) (.slice av K.length cv) K.length _ rfl HK6.out.own ⟨w6.heap.size, 0, none⟩ 1 1 [.string ps[j].1, .int .i64 0, .bool false, .int .i64 0, .string ⟨#[]⟩, .slice none 0 0, .slice none 0 0] rfl rfl (fun j u hu => lit_cells w6 _ _ j u hu) (fun u hu => by
               simp at hu
               rcases hu with rfl | rfl | rfl | rfl | rfl | rfl | rfl <;> rfl) (by have := hKj.out; unfold maxLen; omega) (by have := hKj.out; omega) (by have := hV6.size; have := hbw.size; have := hsz.out; simp; omega) ?_
             intro v7 w7 own7 hg7 hob7
             obtain ⟨a7, c7, rfl⟩ := row_form own7
             have OWN7 := Lib.hid own7
             have HOB7 := Lib.hid hob7
             clear own7 hob7
             have hq7 : ∀ b, b < v5.heap.size → (Value.slice av K.length cv).ownBlock ≠ some b → w7.heap[b]? = v5.heap[b]? := fun b hb hne => (hg7.block b (by simp; have := hV6.size; omega) (fun e => hne e.symm)).trans (hq6a b hb hne)))
      have hlen : (K ++ [(ps[j].1, T.nil, nilC)]).length = K.length + 1 := by rw [List.length_append]; rfl
      have HL := Lib.hid hlen
      have HK7 : Hid (OwnV w.heap.size w7 (.slice a7 (K ++ [(ps[j].1, T.nil, nilC)]).length c7) (K ++ [(ps[j].1, T.nil, nilC)])) := by
        show OwnV _ _ _ _
        rw [hlen]
        exact HK6.out.step (L := [(ps[j].1, T.nil, nilC)]) (fun i hi => by
          obtain rfl : i = 0 := by simp at hi; omega
          exact nil_lies _ _) (fun i hi => by
          obtain rfl : i = 0 := by simp at hi; omega
          exact hkj) OWN7.out hg7 HOB7.out
      have HS7 : Hid ((K ++ [(ps[j].1, T.nil, nilC)]).map strip = goneR (ps.take (j + 1))) := by
        show _ = _
        rw [HTJ.out, List.map_append, HS.out]
        rfl
      have HC7 : Hid (∀ q ∈ K ++ [(ps[j].1, T.nil, nilC)], q.2.2 = nilC) := fun q hq => by
        rcases List.mem_append.1 hq with hq | hq
        · exact HC.out q hq
        · obtain rfl : q = (ps[j].1, T.nil, nilC) := by simpa using hq
          rfl
      have hb7 := Lib.hid ((((hbw.trans (hv.out.mono (show w.heap.size ≤ wr.heap.size from hbw.size))).trans (hV6.mono (show w.heap.size ≤ v5.heap.size by have := hsz.out; have := hbw.size; omega))).alloc (show w.heap.size ≤ w6.heap.size by have := hV6.size; have := hsz.out; have := hbw.size; omega) (.cells #[.string ps[j].1, .int .i64 0, .bool false, .int .i64 0, .string ⟨#[]⟩, .slice none 0 0, .slice none 0 0] 36)).grown hg7 (by have := hV6.size; have := hsz.out; have := hbw.size; simp; omega) (fun g hg => (HK.out.block hg).1))
      clear hq7 hq6 hq6a hg7 hlen hb6
      go_wp2_with fail
      go_roundw
      case rel => exact ⟨j + 1, a7, c7, _, by omega, by go_num, by rw [HL.out], HK7.out, HS7.out, HC7.out, by show _ = _; rw [HL.out, hKj.out], hb7.out⟩
      case measure => simp [intOf]; omega
    · obtain rfl : j = ps.length := by omega
      have HS2 := HS.out
      rw [List.take_length] at HS2
      have HS3 := Lib.hid HS2
      clear HS2
      go_wp2_with fail
      go_ret
      exact ⟨_, K, rfl, HK.out, HS3.out, HC.out, hbw⟩

end Go.Proofs.Ytfhonjjhladddaa
