/-
  A slice of pairs of one's own, whose values go through blocks that it does not own.
-/
import Derived.Test.YthjdeckdklhphaaGreatDoorPutAllM
import Derived.Maps.AppendAt
import Derived.Test.YthjdeckdklhphaaGreatDoorRegionM
set_option linter.unusedVariables false
set_option linter.unusedSimpArgs false
namespace Go.Proofs.YthjdeckdklhphaaGreatDoor
open Go.RowKit Go.Sort

/-- append to a slice of one's own, as an operation of a region. -/
theorem wp_append_ownD {P : Program} {o : Oper} {a : Act} {w : World} {K : Act → World → Prop} {Q : Exit → Act → World → Prop}
    (hg : o.guard = none) (s x : Operand) (t : TypeId) (hop : o.op = Op.call { callee := Callee.builtin Builtin.append, args := #[s, x], argTypes := #[t, t] })
    (base : Nat) (e : TypeId) (i : TypeInfo) (z : Value) (size bytes : Nat) (ht : P.underlying t = some (.slice e)) (hi : P.info? e = some i) (hz : i.zero = some z)
    (hsize : i.size = size) (hby : i.bytes = bytes) (hzs : z.cells.size = size) (hsz : 0 < size)
    (v : Value) (n : Nat) (xs : List Value) (hs : a.eval s = v) (hown : w.ownsRow base e size v n xs)
    (ad : Addr) (m c : Nat) (news : List Value) (hx : a.eval x = .slice (some ad) m c) (hl : news.length = m * size) (hnews : ∀ j u, news[j]? = some u → w.cell? (ad.add j) = some u) (h1 : ∀ u ∈ news, u.oneCell' = true)
    (h63 : n + m ≤ maxLen) (hbytes : (n + m) * bytes ≤ 140737488355328) (hbase : base ≤ w.heap.size)
    (hK : ∀ v' w', w'.ownsRow base e size v' (n + m) (xs ++ news) → w.grownBy w' v.ownBlock → (v'.ownBlock = v.ownBlock ∨ v'.ownBlock = some w.heap.size) → K (a.put o.dst v') w') : o.wp P a w K Q := by
  obtain ⟨v', w', hr, h2, h3, h4, h5⟩ := run_append_own_at (P := P) w base t o.type e i z size bytes ht hi hz hsize hby hzs hsz v n xs hown ad m c news hl hnews h1 h63 hbytes hbase
  unfold Oper.wp
  simp [execOp, hop, resolve, invoke, builtin, hs, hx, hr, Result.andThen]
  exact hK v' w' h2 h3 h5

theorem row_formD {w : World} {base : Nat} {e : TypeId} {size : Nat} {v : Value} {n : Nat} {xs : List Value} (h : w.ownsRow base e size v n xs) : ∃ a c, v = .slice a n c := by
  rcases h.2 with ⟨e, hn⟩ | ⟨g, cap, cur, e, _⟩
  · exact ⟨none, 0, by rw [e, hn]⟩
  · exact ⟨_, _, e⟩

/-- A slice of pairs of one's own, whose values go through such blocks, but not through this one. -/
structure OwnD (S : Nat → Prop) (ex : Nat) (w : World) (v : Value) (K : List Q) : Prop where
  own : w.ownsRow (ex + 1) 48 7 v K.length (flatQ K)
  each : ∀ i (h : i < K.length), Lies w (fun b => S b ∧ b < w.heap.size ∧ v.ownBlock ≠ some b ∧ b ≠ ex) K[i].2.1 K[i].2.2
  keys : ∀ i (h : i < K.length), K[i].1.size ≤ 140737488355328
theorem OwnD.nil (S : Nat → Prop) (ex : Nat) (w : World) : OwnD S ex w (.slice none 0 0) [] := ⟨World.ownsRow_nil w (ex + 1) 48 7, fun i h => absurd h (by simp), fun i h => absurd h (by simp)⟩
theorem OwnD.block {S : Nat → Prop} {ex : Nat} {w : World} {v : Value} {K : List Q} (h : OwnD S ex w v K) {g : Nat} (hg : v.ownBlock = some g) : ex < g ∧ g < w.heap.size := by
  rcases h.own.2 with ⟨e, hn⟩ | ⟨g', cap, cur, e, hb, hg', _⟩
  · rw [e] at hg; cases hg
  · rw [e] at hg
    obtain rfl : g' = g := by injection hg
    exact ⟨hb, (Array.getElem?_eq_some_iff.1 hg').1⟩
/-- What keeps all but one block. -/
theorem OwnD.keep {S : Nat → Prop} {ex : Nat} {w w' : World} {v : Value} {K : List Q} (h : OwnD S ex w v K) (hb : ∀ b, b < w.heap.size → b ≠ ex → w'.heap[b]? = w.heap[b]?) (hs : w.heap.size ≤ w'.heap.size) : OwnD S ex w' v K := by
  refine ⟨⟨h.own.1, ?_⟩, fun i hi => ((h.each i hi).keepB (fun b hR hlt => hb b hlt hR.2.2.2)).weaken fun b hb' => ⟨hb'.1.1, by have := hb'.1.2.1; omega, hb'.1.2.2.1, hb'.1.2.2.2⟩, h.keys⟩
  rcases h.own.2 with h1 | ⟨g, cap, cur, e, hbg, hg, hr⟩
  · exact .inl h1
  · exact .inr ⟨g, cap, cur, e, hbg, by rw [hb g (Array.getElem?_eq_some_iff.1 hg).1 (by omega)]; exact hg, hr⟩
theorem OwnD.later {S : Nat → Prop} {ex : Nat} {w w' : World} {v : Value} {K : List Q} (h : OwnD S ex w v K) (hb : Below w.heap.size w w') : OwnD S ex w' v K := h.keep (fun b hlt _ => hb.block b hlt) hb.size
theorem OwnD.step {S : Nat → Prop} {ex : Nat} {w w' : World} {v v' : Value} {K L : List Q} (h : OwnD S ex w v K)
    (hL : ∀ i (h : i < L.length), Lies w (fun b => S b ∧ b < w.heap.size ∧ v.ownBlock ≠ some b ∧ b ≠ ex) L[i].2.1 L[i].2.2) (hk : ∀ i (h : i < L.length), L[i].1.size ≤ 140737488355328)
    (own : w'.ownsRow (ex + 1) 48 7 v' (K.length + L.length) (flatQ K ++ flatQ L)) (hg : w.grownBy w' v.ownBlock) (hob : v'.ownBlock = v.ownBlock ∨ v'.ownBlock = some w.heap.size) : OwnD S ex w' v' (K ++ L) := by
  have wk : ∀ {t : T} {ds : Array Value}, Lies w (fun b => S b ∧ b < w.heap.size ∧ v.ownBlock ≠ some b ∧ b ≠ ex) t ds → Lies w' (fun b => S b ∧ b < w'.heap.size ∧ v'.ownBlock ≠ some b ∧ b ≠ ex) t ds := fun hl =>
    (hl.keepB (w' := w') (fun b hR hlt => hg.block b hlt fun e => hR.2.2.1 e.symm)).weaken fun b hb => ⟨hb.1.1, by have := hg.size; omega, by
      rcases hob with e | e
      · rw [e]; exact hb.1.2.2.1
      · rw [e]; intro hx; injection hx with hx; omega, hb.1.2.2.2⟩
  refine ⟨by simpa [flatQ] using own, fun i hi => ?_, fun i hi => ?_⟩
  · by_cases hij : i < K.length
    · have e : (K ++ L)[i] = K[i] := List.getElem_append_left hij
      rw [e]
      exact wk (h.each i hij)
    · have e : (K ++ L)[i] = L[i - K.length]'(by simp at hi; omega) := List.getElem_append_right (by omega)
      rw [e]
      exact wk (hL _ _)
  · by_cases hij : i < K.length
    · have e : (K ++ L)[i] = K[i] := List.getElem_append_left hij
      rw [e]
      exact h.keys i hij
    · have e : (K ++ L)[i] = L[i - K.length]'(by simp at hi; omega) := List.getElem_append_right (by omega)
      rw [e]
      exact hk _ _
theorem OwnD.one {S : Nat → Prop} {ex : Nat} {w w' : World} {v v' : Value} {K : List Q} {key : ByteArray} {x : T} {ds : Array Value} (h : OwnD S ex w v K) (hx : Lies w (fun b => S b ∧ b < w.heap.size ∧ v.ownBlock ≠ some b ∧ b ≠ ex) x ds) (hk : key.size ≤ 140737488355328)
    (own : w'.ownsRow (ex + 1) 48 7 v' (K.length + 1) (flatQ K ++ (#[Value.string key] ++ ds).toList)) (hg : w.grownBy w' v.ownBlock) (hob : v'.ownBlock = v.ownBlock ∨ v'.ownBlock = some w.heap.size) : OwnD S ex w' v' (K ++ [(key, x, ds)]) :=
  h.step (L := [(key, x, ds)]) (fun i hi => by
    obtain rfl : i = 0 := by simp at hi; omega
    exact hx) (fun i hi => by
    obtain rfl : i = 0 := by simp at hi; omega
    exact hk) (by simpa [flatQ, qrow] using own) hg hob
theorem OwnD.done {S : Nat → Prop} {ex : Nat} {w : World} {v : Value} {K : List Q} (h : OwnD S ex w v K) (hx : K.length * 104 ≤ 140737488355328) :
    ∃ a cap cm, v = .slice a K.length cap ∧ SliceP w (fun b => (S b ∨ ex < b) ∧ b ≠ ex) (K.map strip) a cap cm := by
  have hrs : ∀ d ∈ K.map qrow, d.size = 7 := fun d hd => by
    obtain ⟨q, hq, rfl⟩ := List.mem_map.1 hd
    obtain ⟨i, hi, rfl⟩ := List.getElem_of_mem hq
    have := (h.each i hi).size6
    simp [qrow, this]
  have hown := h.own
  rcases hown.2 with ⟨e, hn⟩ | ⟨g', cap', cur, e, hbg, hgc, hnc, hcm, hcs, htake⟩
  · have hK : K = [] := List.eq_nil_of_length_eq_zero hn
    subst hK
    exact ⟨none, 0, fun _ => #[], e, ⟨⟨by simp, by simp, fun _ => rfl, fun hp => absurd hp (by simp), by omega⟩, fun i hi => absurd hi (by simp), fun i hi => absurd hi (by simp), fun i hi => absurd hi (by simp)⟩⟩
  · subst e
    refine ⟨_, _, fun i => ((K[i]?).map (·.2.2)).getD #[], rfl, ⟨by simpa using hnc, by simpa using hx, by simp, fun _ => ⟨g', 0, rfl, .inr hbg, by omega⟩, by unfold maxLen at hcm; omega⟩, fun i hi bl ol e k hk => ?_, fun i hi => ?_, fun i hi => ?_⟩
    · simp only [Option.some.injEq, Addr.mk.injEq, and_true] at e
      obtain ⟨rfl, rfl⟩ := e
      have hi' : i < K.length := by simpa using hi
      have hi2 : i < (K.map qrow).length := by simpa using hi
      have er : (K.map qrow)[i] = #[Value.string ((K.map strip)[i]).1] ++ ((K[i]?).map (·.2.2)).getD #[] := by simp [qrow, strip, List.getElem?_eq_getElem hi']
      have hk7 : k < ((K.map qrow)[i]).size := by rw [er]; exact hk
      have h7 := hrs _ (List.getElem_mem hi2)
      have hlt : i * 7 + k < K.length * 7 := by omega
      have := flat_get (K.map qrow) hrs i hi2 k hk7
      rw [Nat.zero_add, hown.cellAt (i * 7 + k) hlt, flatQ, this]
      exact congrArg some (get_congr er k _ _)
    · have hi' : i < K.length := by simpa using hi
      simpa [strip] using h.keys i hi'
    · have hi' : i < K.length := by simpa using hi
      have := (h.each i hi').weaken (R' := fun b => (S b ∨ ex < b) ∧ b ≠ ex) fun b hb => ⟨.inl hb.1, hb.2.2.2⟩
      simpa [strip, List.getElem?_eq_getElem hi'] using this

end Go.Proofs.YthjdeckdklhphaaGreatDoor

/-
  A region that draws its order, in which one operation grows a slice of one's own, and whose last operation lays a value, too.
-/
set_option linter.unusedVariables false
set_option linter.unusedSimpArgs false
namespace Go.Proofs.YthjdeckdklhphaaGreatDoor
open Go.RowKit

/-- The slots that the operations write are D 0, D 1, ..; none is guarded; the last one waits for all of them. -/
def specsJ (ops : Array Oper) (n : Nat) (D : Nat → Tmp) : Bool :=
  decide (ops.size = n + 1) && (List.range n).all (fun i => ((ops[i]?).map fun o => decide (o.dst = some (D i)) && o.guard.isNone).getD false) &&
  ((ops[n]?).map fun o => decide (o.dst = some (D n)) && o.guard.isNone && (List.range n).all fun i => o.after.any fun e => Region.binds .any e && decide (e.on = i)).getD false &&
  (List.range n).all (fun i => (List.range n).all fun j => decide (D i = D j → i = j)) &&
  (List.range ops.size).all (fun i => ((ops[i]?).map fun o => o.after.all fun e => decide (e.on < i)).getD true)

/-- As wp_region_growsD, but the last operation lays a value, too: one operation may change what was there (a slice of one's own that grows): G holds up to it; what the others know, it keeps. -/
theorem wp_region_growsD {P : Program} {ops : Array Oper} {Q : Exit → Act → World → Prop} {id : Nat} {a : Act} {w : World} (Base G : World → Prop) (Rel : World → World → Prop) (p n : Nat) (D : Nat → Tmp) (U : Nat → Value → World → Prop) (Fin : Act → Value → World → Prop)
    (hm : P.follows .mixedOrders = true) (hB : specsJ ops n D = true) (hsz : ∀ i, i < n → D i < a.tmps.size) (hp : p < n) (hv : Base w.drew) (hg : G w.drew) (hbase : ∀ w w', Below w.heap.size w w' → Base w → Base w') (hbaseR : ∀ w w', Rel w w' → Base w → Base w') (hG : ∀ w w', Below w.heap.size w w' → G w → G w')
    (monoR : ∀ i x w w', i ≠ p → Rel w w' → U i x w → U i x w')
    (mono : ∀ i x w w', Below w.heap.size w w' → U i x w → U i x w')
    (hstep : ∀ i o b wb (K : Act → World → Prop), ops[i]? = some o → i < n → i ≠ p → Agree (slots n D) a b → Base wb → (∀ e ∈ o.after, Region.binds .any e = true → U e.on (sl b (D e.on)) wb) → (∀ x w', Below wb.heap.size wb w' → U i x w' → K (b.put (some (D i)) x) w') → o.wp P b wb K Q)
    (hgrow : ∀ o b wb (K : Act → World → Prop), ops[p]? = some o → Agree (slots n D) a b → Base wb → G wb → (∀ e ∈ o.after, Region.binds .any e = true → U e.on (sl b (D e.on)) wb) → (∀ x w', Rel wb w' → U p x w' → K (b.put (some (D p)) x) w') → o.wp P b wb K Q)
    (hlast : ∀ o b wb (K : Act → World → Prop), ops[n]? = some o → Agree (slots n D) a b → Base wb → (∀ i, i < n → U i (sl b (D i)) wb) → (∀ x w', Fin b x w' → K (b.put (some (D n)) x) w') → o.wp P b wb K Q)
    (he : ∀ b x wb, Agree (slots n D) a b → Fin b x wb → Q .normal (b.put (some (D n)) x) wb) : (Code.region id ops true).wp P Q a w := by
  unfold specsJ at hB
  simp only [Bool.and_eq_true] at hB
  obtain ⟨⟨⟨⟨h1, h2⟩, h3⟩, h4⟩, h5⟩ := hB
  have hsize : ops.size = n + 1 := of_decide_eq_true h1
  have hdst : ∀ i o, ops[i]? = some o → i < n → o.dst = some (D i) ∧ o.guard = none := fun i o ho hi => by
    have := List.all_eq_true.1 h2 i (List.mem_range.2 hi)
    rw [ho] at this
    simp only [Option.map_some, Option.getD_some, Bool.and_eq_true, decide_eq_true_eq, Option.isNone_iff_eq_none] at this
    exact this
  have hinj : ∀ i j, i < n → j < n → D i = D j → i = j := fun i j hi hj => by
    have := List.all_eq_true.1 (List.all_eq_true.1 h4 i (List.mem_range.2 hi)) j (List.mem_range.2 hj)
    exact of_decide_eq_true this
  refine wp_region_keeps (fun a0 d b wb => b.tmps.size = a0.tmps.size ∧ ((d n = false ∧ Agree (slots n D) a0 b ∧ Base wb ∧ (d p = false → G wb) ∧ ∀ i, i < n → d i = true → U i (sl b (D i)) wb) ∨ ((∀ i, i < n + 1 → d i = true) ∧ ∃ b0 x, b = b0.put (some (D n)) x ∧ Agree (slots n D) a0 b0 ∧ Fin b0 x wb))) hm h5 ⟨rfl, .inl ⟨rfl, Agree.refl _ _, hv, fun _ => hg, fun i hi h => by cases h⟩⟩ ?_ ?_
  · intro d b wb i o K ho hd hdep hI hK
    obtain ⟨hbs, hI⟩ := hI
    have hi : i < n + 1 := by rw [← hsize]; exact (Array.getElem?_eq_some_iff.1 ho).1
    by_cases hin : i < n
    · rcases hI with ⟨hdn, hA, hbv, hGG, hU⟩ | ⟨hdn, _⟩
      · obtain ⟨e1, e2⟩ := hdst i o ho hin
        have hdeps : ∀ e ∈ o.after, Region.binds .any e = true → U e.on (sl b (D e.on)) wb := fun e hee hb => by
          have hlt := List.all_eq_true.1 h5 i (List.mem_range.2 (by omega))
          rw [ho] at hlt
          simp only [Option.map_some, Option.getD_some] at hlt
          have := (Array.all_eq_true_iff_forall_mem.1 hlt) e hee
          exact hU e.on (by have := of_decide_eq_true this; omega) (hdep e hee hb)
        have hdn2 : (if n = i then true else d n) = false := by rw [if_neg (by omega)]; exact hdn
        by_cases hip : i = p
        · subst hip
          refine wpOp_of ho e2 (hgrow o b wb K ho hA hbv (hGG hd) hdeps fun x w' hb hx => hK _ _ ⟨(size_put _ _ _).trans hbs, .inl ⟨hdn2, hA.put (mem_slots hin) x, hbaseR _ _ hb hbv, fun h => ?_, fun j hj hdj => ?_⟩⟩)
          · have h : (if i = i then true else d i) = false := h
            rw [if_pos rfl] at h; cases h
          · by_cases hji : j = i
            · subst hji
              rw [sl_eq (by rw [hbs]; exact hsz j hj)]
              exact hx
            · have hdj : (if j = i then true else d j) = true := hdj
              rw [if_neg hji] at hdj
              rw [sl_ne (fun e => hji (hinj j i hj hin e.symm))]
              exact monoR _ _ _ _ hji hb (hU j hj hdj)
        · refine wpOp_of ho e2 (hstep i o b wb K ho hin hip hA hbv hdeps fun x w' hb hx => hK _ _ ⟨(size_put _ _ _).trans hbs, .inl ⟨hdn2, hA.put (mem_slots hin) x, hbase _ _ hb hbv, fun h => ?_, fun j hj hdj => ?_⟩⟩)
          · have h : (if p = i then true else d p) = false := h
            rw [if_neg (fun e => hip e.symm)] at h
            exact hG _ _ hb (hGG h)
          · by_cases hji : j = i
            · subst hji
              rw [sl_eq (by rw [hbs]; exact hsz j hj)]
              exact hx
            · have hdj : (if j = i then true else d j) = true := hdj
              rw [if_neg hji] at hdj
              rw [sl_ne (fun e => hji (hinj j i hj hin e.symm))]
              exact mono _ _ _ _ hb (hU j hj hdj)
      · rw [hdn i hi] at hd; cases hd
    · obtain rfl : i = n := by omega
      rcases hI with ⟨hdn, hA, hbv, hGG, hU⟩ | ⟨hdn, _⟩
      · rw [ho] at h3
        simp only [Option.map_some, Option.getD_some, Bool.and_eq_true, decide_eq_true_eq, Option.isNone_iff_eq_none] at h3
        obtain ⟨⟨e1, e2⟩, h3⟩ := h3
        have hall : ∀ j, j < i → d j = true := fun j hj => by
          have := List.all_eq_true.1 h3 j (List.mem_range.2 hj)
          obtain ⟨k, hk, hke⟩ := Array.any_eq_true.1 this
          simp only [Bool.and_eq_true, decide_eq_true_eq] at hke
          rw [← hke.2]
          exact hdep _ (Array.getElem_mem hk) hke.1
        exact wpOp_of ho e2 (hlast o b wb K ho hA hbv (fun j hj => hU j hj (hall j hj)) fun x w' hf => hK _ _ ⟨(size_put _ _ _).trans hbs, .inr ⟨fun j hj => by
          show (if j = i then true else d j) = true
          by_cases hji : j = i
          · rw [if_pos hji]
          · rw [if_neg hji]; exact hall j (by omega), b, x, rfl, hA, hf⟩⟩)
      · rw [hdn i hi] at hd; cases hd
  · intro d b wb hall hI
    obtain ⟨hbs, hI⟩ := hI
    rcases hI with ⟨hdn, _⟩ | ⟨_, b0, x, rfl, hA, hF⟩
    · rw [hall n (by omega)] at hdn; cases hdn
    · exact he b0 x wb hA hF

end Go.Proofs.YthjdeckdklhphaaGreatDoor
