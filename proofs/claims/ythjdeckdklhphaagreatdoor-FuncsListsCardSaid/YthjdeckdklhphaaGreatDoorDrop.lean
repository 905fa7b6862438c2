/-
  Package tree's Drop.
-/
import Derived.Test.YthjdeckdklhphaaGreatDoorMap
import Derived.Test.YthjdeckdklhphaaGreatDoorFnKeysM
import Derived.Lib.SliceRun
set_option linter.unusedVariables false
set_option linter.unusedSimpArgs false
namespace Go.Proofs.YthjdeckdklhphaaGreatDoor
open Go.RowKit Go.Sort

/-- A copy in an own block is the same slice of pairs. -/
theorem own_slice {w0 w : World} {R : Nat → Prop} {ps : List (ByteArray × T)} {a : Option Addr} {c : Nat} {cm : Nat → Array Value} (h : SliceP w0 R ps a c cm) (hw : Below w0.heap.size w0 w) {base g n cap : Nat} (ho : OwnQ w base g n cap (qlist ps cm)) (hc : cap ≤ 9223372036854775807) (hn : n ≤ cap) :
    SliceP w (fun b => R b ∨ b = g) ps (some ⟨g, 0, none⟩) cap cm := by
  have e : n = ps.length := by rw [← ho.len, qlist_len]
  subst e
  refine ⟨⟨hn, h.hdr.big, by simp, fun _ => ⟨g, 0, rfl, .inr rfl⟩, hc⟩, fun i hi bl ol e j hj => ?_, h.keys, fun i hi => ((h.later hw).each i hi).weaken fun b hb => .inl hb⟩
  simp only [Option.some.injEq, Addr.mk.injEq, and_true] at e
  obtain ⟨rfl, rfl⟩ := e
  have hi2 : i < ((qlist ps cm).map qrow).length := by simpa [qlist] using hi
  have er : ((qlist ps cm).map qrow)[i] = #[Value.string (ps[i]).1] ++ cm i := by simp [qrow, qlist_get]
  have hj2 : j < (((qlist ps cm).map qrow)[i]).size := by rw [er]; exact hj
  have h7 := qlist_rows h _ (List.getElem_mem hi2)
  have hlt : i * 7 + j < ps.length * 7 := by omega
  have := flat_get _ (qlist_rows h) i hi2 j hj2
  rw [Nat.zero_add, ho.own.cellAt (i * 7 + j) hlt, flatQ, this]
  exact congrArg some (get_congr er j _ _)

/-- In the midst of DeleteFunc: i kept, of the first j; from j on as it was. -/
structure DelQ (w : World) (base g n cap : Nat) (key : ByteArray) (L : List Q) (i j : Nat) (C : List Q) : Prop where
  own : OwnQ w base g n cap C
  kept : C.take i = (L.take j).filter fun q => !decide (q.1 = key)
  rest : C.drop j = L.drop j
  lt : i < j
  le : j ≤ n

theorem DelQ.later {w w' : World} {base g n cap : Nat} {key : ByteArray} {L : List Q} {i j : Nat} {C : List Q} (h : DelQ w base g n cap key L i j C) (hb : Below w.heap.size w w') : DelQ w' base g n cap key L i j C := ⟨h.own.kept hb, h.kept, h.rest, h.lt, h.le⟩

theorem DelQ.at {w : World} {base g n cap : Nat} {key : ByteArray} {L : List Q} {i j : Nat} {C : List Q} (h : DelQ w base g n cap key L i j C) (hL : L.length = n) (hj : j < n) : ∃ (h1 : j < C.length) (h2 : j < L.length), C[j] = L[j] := by
  have h1 : j < C.length := by rw [h.own.len]; exact hj
  have h2 : j < L.length := by rw [hL]; exact hj
  refine ⟨h1, h2, ?_⟩
  have := congrArg (fun l => l[0]?) h.rest
  simp only [List.getElem?_drop, Nat.add_zero] at this
  rw [List.getElem?_eq_getElem h1, List.getElem?_eq_getElem h2] at this
  exact Option.some.inj this

theorem DelQ.skip {w : World} {base g n cap : Nat} {key : ByteArray} {L : List Q} {i j : Nat} {C : List Q} (h : DelQ w base g n cap key L i j C) (hL : L.length = n) (hj : j < n) (hk : ∀ h : j < L.length, L[j].1 = key) : DelQ w base g n cap key L i (j + 1) C := by
  have h2 : j < L.length := by rw [hL]; exact hj
  refine ⟨h.own, ?_, ?_, Nat.lt_succ_of_lt h.lt, hj⟩
  · rw [h.kept, List.take_succ_eq_append_getElem h2, List.filter_append]
    simp [hk h2]
  · rw [← List.drop_drop, ← List.drop_drop, h.rest]

theorem DelQ.step {w w' : World} {base g n cap : Nat} {key : ByteArray} {L : List Q} {i j : Nat} {C : List Q} (h : DelQ w base g n cap key L i j C) (hL : L.length = n) (hj : j < n) (hk : ∀ h : j < L.length, L[j].1 ≠ key)
    (ho : ∀ h : j < C.length, OwnQ w' base g n cap (C.set i C[j])) : ∃ h1 : j < C.length, DelQ w' base g n cap key L (i + 1) (j + 1) (C.set i C[j]) := by
  have hlt := h.lt
  obtain ⟨h1, h2, e⟩ := h.at hL hj
  have hi : i < C.length := by omega
  refine ⟨h1, ho h1, ?_, ?_, by omega, hj⟩
  · rw [List.take_succ_eq_append_getElem h2, List.filter_append, ← h.kept, List.take_succ_eq_append_getElem (by simpa using hi)]
    rw [List.take_set_of_le (Nat.le_refl i)]
    simp [hk h2, e]
  · rw [List.drop_set_of_lt (by omega), ← List.drop_drop, ← List.drop_drop, h.rest]

/-- One row written. -/
theorem OwnQ.put {w : World} {base g n cap : Nat} {C : List Q} (h : OwnQ w base g n cap C) (i : Nat) (hi : i < C.length) (q : Q) (hq : q ∈ C) :
    OwnQ (setRow w g (i * 7) (qrow q).toList) base g n cap (C.set i q) ∧ w.grownBy (setRow w g (i * 7) (qrow q).toList) (some g) := by
  have hs := qrow_size h
  have s0 : (qrow q).size = 7 := hs _ (List.mem_map.2 ⟨_, hq, rfl⟩)
  obtain ⟨o1, g1⟩ := own_setRow (qrow q).toList w (i * 7) _ h.own
  have e1 : setL (flatQ C) (i * 7) (qrow q).toList = flatQ (C.set i q) := by
    unfold flatQ
    rw [setL_flat _ hs i (by simpa using hi) _ s0, List.map_set]
  rw [e1] at o1
  refine ⟨⟨by simp [h.len], o1, fun k hk => ?_⟩, g1⟩
  have hm : (C.set i q)[k] ∈ C := by
    rcases List.mem_or_eq_of_mem_set (List.getElem_mem hk) with h1 | e
    · exact h1
    · rw [e]; exact hq
  obtain ⟨i', hi', e⟩ := List.getElem_of_mem hm
  rw [← e]
  exact h.six i' hi'

theorem setCells_setRow (g : Nat) : ∀ (vs : List Value) (w : World) (o : Nat), w.setCells g o vs = setRow w g o vs
  | [], _, _ => rfl
  | v :: r, w, o => by rw [World.setCells, setRow, setCells_setRow g r]

/-- The zeros of m pairs. -/
def zerosP (m : Nat) : List Value := (Builtin.zeroCells (Value.agg #[.string ⟨#[]⟩, .int .i64 0, .bool false, .int .i64 0, .string ⟨#[]⟩, .slice none 0 0, .slice none 0 0]).cells m).toList

theorem run_clearP (w : World) (ty : TypeId) (b o n c : Nat) (hn : 0 < n) (hz : ∀ w, (zeroValue 48).run Tryz.prog w = .ok (.agg #[.string ⟨#[]⟩, .int .i64 0, .bool false, .int .i64 0, .string ⟨#[]⟩, .slice none 0 0, .slice none 0 0]) w)
    (hc : ∀ j, j < n * 7 → (w.cell? ⟨b, o + j, none⟩).isSome = true) (hf : ∀ j, j < n * 7 → w.frozen? ⟨b, o + j, none⟩ = false) :
    (Builtin.clear_ #[26] ty #[.slice (some ⟨b, o, none⟩) n c]).run Tryz.prog w = .ok (.tuple #[]) (setRow w b o (zerosP n)) := by
  have hl : (zerosP n).length = n * 7 := by
    unfold zerosP
    simp [Builtin.zeroCells, Value.cells]
  have h1 : ∀ v ∈ zerosP n, v.oneCell' = true := fun v hv => by
    unfold zerosP Builtin.zeroCells at hv
    simp only [Value.cells] at hv
    obtain ⟨x, _, rfl⟩ := Array.mem_map.1 (Array.mem_toList_iff.1 hv)
    have hx : x % 7 < 7 := Nat.mod_lt _ (by omega)
    show (#[Value.string ⟨#[]⟩, .int .i64 0, .bool false, .int .i64 0, .string ⟨#[]⟩, .slice none 0 0, .slice none 0 0][x % 7]!).oneCell' = true
    generalize x % 7 = y at hx
    rcases (by omega : y = 0 ∨ y = 1 ∨ y = 2 ∨ y = 3 ∨ y = 4 ∨ y = 5 ∨ y = 6) with rfl | rfl | rfl | rfl | rfl | rfl | rfl <;> rfl
  have hst := run_storeCells_cells (P := Tryz.prog) b o (zerosP n) 0 w (by rw [hl]; simpa using hc) (by rw [hl]; simpa using hf) h1
  simp only [Nat.add_zero] at hst
  rw [setCells_setRow] at hst
  obtain ⟨m, rfl⟩ : ∃ m, n = m + 1 := ⟨n - 1, by omega⟩
  unfold zerosP at *
  simp [Builtin.clear_, run_underlying Tryz.underlying26, hz, hst]


theorem one_boxD {w w1 : World} {cs : Array Value} {ty : TypeId} (h : Below (w.alloc (.cells cs ty)).heap.size (w.alloc (.cells cs ty)) w1) :
    (∀ j, w1.cell? ⟨w.heap.size, j, none⟩ = cs[j]?) ∧ (∀ j, w1.frozen? ⟨w.heap.size, j, none⟩ = false) :=
  ⟨fun j => by rw [h.cell (p := ⟨w.heap.size, j, none⟩) (by simp), World.cell?_alloc_new], fun j => by rw [h.frozen (p := ⟨w.heap.size, j, none⟩) (by simp), World.frozen?_alloc_new]⟩

/-- What DeleteFunc leaves. -/
def LeftP (w : World) (base g cap : Nat) (key : ByteArray) (L : List Q) (e : Ending) (w' : World) : Prop :=
  ∃ K : List Q, K = L.filter (fun q => !decide (q.1 = key)) ∧ e = .returned (.slice (some ⟨g, 0, none⟩) K.length cap) ∧ (∀ i (h : i < K.length), ∀ j, j < 7 → w'.cell? ⟨g, i * 7 + j, none⟩ = (qrow K[i])[j]?) ∧ K.length ≤ cap ∧ w.grownBy w' (some g)

theorem no_key (L : List Q) (key : ByteArray) (h : keyIx (L.map strip) key < 0) : L.filter (fun q => !decide (q.1 = key)) = L := by
  rw [List.filter_eq_self]
  intro q hq
  unfold keyIx at h
  cases hx : (L.map strip).findIdx? fun p => decide (p.1 = key) with
  | none =>
    have := List.findIdx?_eq_none_iff.1 hx (strip q) (List.mem_map.2 ⟨q, hq, rfl⟩)
    have h2 := of_decide_eq_false this
    have h3 : ¬ q.1 = key := h2
    simp [h3]
  | some i => rw [hx] at h; simp at h; omega

theorem hit_key (L : List Q) (key : ByteArray) (i : Nat) (h : keyIx (L.map strip) key = i) : ∃ hi : i < L.length, L[i].1 = key ∧ (L.take (i + 1)).filter (fun q => !decide (q.1 = key)) = L.take i := by
  unfold keyIx at h
  cases hx : (L.map strip).findIdx? fun p => decide (p.1 = key) with
  | none => rw [hx] at h; simp only at h; omega
  | some i' =>
    rw [hx] at h
    simp only at h
    obtain rfl : i' = i := by omega
    obtain ⟨h1, h2, h3⟩ := List.findIdx?_eq_some_iff_getElem.1 hx
    have hi : i' < L.length := by simpa using h1
    have hk : L[i'].1 = key := by simpa [strip] using h2
    refine ⟨hi, hk, ?_⟩
    rw [List.take_succ_eq_append_getElem hi, List.filter_append]
    have e1 : (L.take i').filter (fun q => !decide (q.1 = key)) = L.take i' := by
      rw [List.filter_eq_self]
      intro q hq
      obtain ⟨k, hk', rfl⟩ := List.getElem_of_mem hq
      have hk2 : k < i' := by simp at hk'; omega
      have := h3 k hk2
      have h4 : ¬ ((L.map strip)[k]'(by rw [List.length_map]; omega)).1 = key := by simpa using this
      rw [List.getElem_map] at h4
      have h5 : ¬ (L[k]'(by omega)).1 = key := h4
      rw [List.getElem_take]
      simp [h5]
    rw [e1]
    simp [hk]

theorem OwnQ.cells {w : World} {base g n cap : Nat} {C : List Q} (h : OwnQ w base g n cap C) (i : Nat) (hi : i < C.length) (j : Nat) (hj : j < 7) : w.cell? ⟨g, i * 7 + j, none⟩ = (qrow C[i])[j]? := by
  have hi2 : i < (C.map qrow).length := by simpa using hi
  have er : (C.map qrow)[i] = qrow C[i] := by simp
  have s0 : (qrow C[i]).size = 7 := qrow_size h _ (List.mem_map.2 ⟨_, List.getElem_mem hi, rfl⟩)
  have hn := h.len
  rw [h.own.cellAt (i * 7 + j) (by omega)]
  have := flat_get (C.map qrow) (qrow_size h) i hi2 j (by rw [er, s0]; exact hj)
  rw [flatQ, this, Array.getElem?_eq_getElem (by rw [s0]; exact hj)]
  exact congrArg some (get_congr er j _ _)

/-! ### Of no pairs -/

theorem wfk5 : (Lit.int .i64 5).wf = true := by decide
theorem wfk0 : (Lit.int .i64 0).wf = true := by decide
theorem empty_s : (⟨#[]⟩ : ByteArray).size ≤ 140737488355328 := Nat.zero_le _
theorem empty_sV (w : World) (R : Nat → Prop) : SliceV w R [] none 0 (fun _ => #[]) := ⟨⟨by simp, by simp, fun _ => rfl, fun hp => absurd hp (by simp), by omega⟩, fun i hi => absurd hi (by simp), fun i hi => absurd hi (by simp)⟩

theorem empty_any (w : World) (R : Nat → Prop) {a : Option Addr} {c : Nat} (h0 : a = none → c = 0) (hc : c ≤ 9223372036854775807) : SliceP w R [] a c (fun _ => #[]) :=
  ⟨⟨by simp, by simp, h0, fun hp => absurd hp (by simp), hc⟩, fun i hi => absurd hi (by simp), fun i hi => absurd hi (by simp), fun i hi => absurd hi (by simp)⟩

def Copied0 (w : World) (e : Ending) (w' : World) : Prop := ∃ a c, e = .returned (.slice a 0 c) ∧ (a = none → c = 0) ∧ c ≤ 9223372036854775807 ∧ Below w.heap.size w w'

theorem sCloneP_zero {a : Option Addr} {c : Nat} (w : World) : Calls Tryz.prog 109 #[.slice a 0 c] w (Copied0 w) := by
  cases a with
  | none =>
    have hq : ∀ wx : World, (binOp .eql 26 (.slice none 0 c) (.slice none 0 0)).run Tryz.prog wx = .ok (.bool true) wx := fun wx => Lib.run_eql_slice_nil wx 26 48 _ _ _ _ _ Tryz.underlying26
    go_enter Tryz.func109, Tryz.ntmps109
    go_wp2_with fail
    go_ret
    exact ⟨none, 0, rfl, fun _ => rfl, by omega, Below.refl _ _⟩
  | some ad =>
    have hq : ∀ wx : World, (binOp .eql 26 (.slice (some ad) 0 c) (.slice none 0 0)).run Tryz.prog wx = .ok (.bool false) wx := fun wx => Lib.run_eql_slice_nil wx 26 48 _ _ _ _ _ Tryz.underlying26
    go_enter Tryz.func109, Tryz.ntmps109
    go_wp2_with fail
    go_ret
    exact ⟨some ⟨w.heap.size, 0, none⟩, 0, rfl, fun _ => rfl, by omega, (Below.refl _ _).alloc (Nat.le_refl _) _⟩


theorem dropR_strip (key : ByteArray) (L : List Q) : (L.filter fun q => !decide (q.1 = key)).map strip = dropR key (L.map strip) := by
  unfold dropR
  rw [List.filter_map]
  rfl

/-- What DeleteFunc leaves of a copy, as a slice of pairs. -/
theorem left_slice {w0 w2 : World} {R : Nat → Prop} {ps : List (ByteArray × T)} {a : Option Addr} {c : Nat} {cm : Nat → Array Value} (h : SliceP w0 R ps a c cm) (hw : Below w0.heap.size w0 w2) {g cap : Nat} (K : List Q) (key : ByteArray) (hK : K = (qlist ps cm).filter (fun q => !decide (q.1 = key)))
    (hc : ∀ i (h : i < K.length), ∀ j, j < 7 → w2.cell? ⟨g, i * 7 + j, none⟩ = (qrow K[i])[j]?) (hle : K.length ≤ cap) (hmax : cap ≤ 9223372036854775807) :
    SliceP w2 (fun _ => True) (dropR key ps) (some ⟨g, 0, none⟩) cap (fun i => ((K[i]?).map (·.2.2)).getD #[]) ∧ K.length = (dropR key ps).length := by
  have hstrip : K.map strip = dropR key ps := by rw [hK, dropR_strip, strip_qlist]
  have hlen : K.length = (dropR key ps).length := by rw [← hstrip, List.length_map]
  have hmem : ∀ q ∈ K, Lies w0 R q.2.1 q.2.2 ∧ q.1.size ≤ 140737488355328 := fun q hq => by
    rw [hK] at hq
    have hq2 := (List.mem_filter.1 hq).1
    obtain ⟨i, hi, rfl⟩ := List.getElem_of_mem hq2
    have hi' : i < ps.length := by simpa [qlist] using hi
    rw [qlist_get]
    exact ⟨h.each i hi', h.keys i hi'⟩
  have hll : K.length ≤ ps.length := by
    rw [hK]
    have := List.length_filter_le (fun q : Q => !decide (q.1 = key)) (qlist ps cm)
    rw [qlist_len] at this
    exact this
  have hbig := h.hdr.big
  have hget : ∀ i (hi : i < (dropR key ps).length), ∃ hk : i < K.length, (dropR key ps)[i] = strip K[i] := fun i hi => by
    have hk : i < K.length := by omega
    refine ⟨hk, ?_⟩
    have : (dropR key ps)[i]? = (K.map strip)[i]? := by rw [hstrip]
    rw [List.getElem?_eq_getElem hi, List.getElem?_map, List.getElem?_eq_getElem hk] at this
    exact Option.some.inj this
  refine ⟨⟨⟨by omega, by omega, by simp, fun _ => ⟨g, 0, rfl, trivial⟩, hmax⟩, fun i hi bl ol e j hj => ?_, fun i hi => ?_, fun i hi => ?_⟩, hlen⟩
  · simp only [Option.some.injEq, Addr.mk.injEq, and_true] at e
    obtain ⟨rfl, rfl⟩ := e
    obtain ⟨hk, e⟩ := hget i hi
    have e2 : #[Value.string ((dropR key ps)[i]).1] ++ ((K[i]?).map (·.2.2)).getD #[] = qrow K[i] := by rw [e]; simp [qrow, strip, List.getElem?_eq_getElem hk]
    have s7 : (qrow K[i]).size = 7 := by have := (hmem K[i] (List.getElem_mem hk)).1.size6; simp [qrow, this]
    have hj7 : j < (qrow K[i]).size := by rw [← e2]; exact hj
    rw [Nat.zero_add, hc i hk j (by omega), Array.getElem?_eq_getElem hj7]
    exact congrArg some (get_congr e2.symm j _ _)
  · obtain ⟨hk, e⟩ := hget i hi
    rw [e]
    exact (hmem K[i] (List.getElem_mem hk)).2
  · obtain ⟨hk, e⟩ := hget i hi
    rw [e, List.getElem?_eq_getElem hk]
    exact (((hmem K[i] (List.getElem_mem hk)).1).later hw).weaken fun _ _ => trivial

def DropIn (w : World) (t : T) (e : Ending) (w' : World) : Prop := ∃ ds, e = .returned (.agg ds) ∧ Lies w' (fun b => w.heap.size ≤ b) t ds ∧ Below w.heap.size w w'

end Go.Proofs.YthjdeckdklhphaaGreatDoor
