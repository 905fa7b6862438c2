/-
  Package tree's Drop.
-/
import Derived.Test.YtbbpipjadniafaaDoorMap
import Derived.Test.YtbbpipjadniafaaDoorPuts
import Derived.Lib.SliceRun
set_option linter.unusedVariables false
set_option linter.unusedSimpArgs false
namespace Go.Proofs.YtbbpipjadniafaaDoor
open Go.RowKit Go.Sort

set_option maxHeartbeats 400000 in
/-- The closure in Drop: is the key that one? -/
theorem drop1_any (pk : ByteArray) (k : Int) (b : Bool) (n : Int) (s : ByteArray) (la : Option Addr) (ll lc : Nat) (ma : Option Addr) (ml mc : Nat) (key : ByteArray) (kb : Nat) (w : World) (hk : w.cell? ⟨kb, 0, none⟩ = some (.string key)) :
    Calls Tryd.prog 56 #[.agg #[.string pk, .int .i64 k, .bool b, .int .i64 n, .string s, .slice la ll lc, .slice ma ml mc], .pointer (some ⟨kb, 0, none⟩)] w fun e w' => e = .returned (.bool (decide (pk = key))) ∧ Below w.heap.size w w' := by
  have hlt := World.block_lt_of_cell? _ _ hk
  have hne : kb ≠ w.heap.size := by simp at hlt; omega
  have HB := Lib.hid ((Below.refl w.heap.size w).alloc (Nat.le_refl _) (.cells #[.string pk, .int .i64 k, .bool b, .int .i64 n, .string s, .slice la ll lc, .slice ma ml mc] 80))
  have hk2 : (w.alloc (.cells #[.string pk, .int .i64 k, .bool b, .int .i64 n, .string s, .slice la ll lc, .slice ma ml mc] 80)).cell? ⟨kb, 0, none⟩ = some (.string key) := by rw [World.cell?_alloc_lt _ _ _ hlt]; exact hk
  by_cases h : pk = key
  · have HR := Lib.hid (decide_eq_true h)
    have e1 : (pk.toList == key.toList) = true := by rw [h]; simp
    clear h
    go_enter Tryd.func56, Tryd.ntmps56
    go_wp2_with fail
    go_ret
    exact ⟨ret_bool (by rw [HR.out]), HB.out⟩
  · have HR := Lib.hid (decide_eq_false h)
    have e1 := str_ne h
    clear h
    go_enter Tryd.func56, Tryd.ntmps56
    go_wp2_with fail
    go_ret
    exact ⟨ret_bool (by rw [HR.out]), HB.out⟩

set_option maxHeartbeats 400000 in
theorem indexD_any {w0 : World} {R : Nat → Prop} {ps : List (ByteArray × T)} {a : Option Addr} {cap : Nat} {cm : Nat → Array Value} (h : SliceP w0 R ps a cap cm) (key : ByteArray) (kb : Nat) (w : World) (hw : Below w0.heap.size w0 w) (hk : w.cell? ⟨kb, 0, none⟩ = some (.string key)) :
    Calls Tryd.prog 66 #[.slice a ps.length cap, .func (Fn.func 56) #[] #[.pointer (some ⟨kb, 0, none⟩)]] w fun e w' => e = .returned (.int .i64 (keyIx ps key)) ∧ Below w.heap.size w w' := by
  have hl := h.hdr
  have ll := hl.le
  have lx := hl.big
  have KN := Lib.hid (keyIx_none ps key)
  have KH := Lib.hid (keyIx_hit ps key)
  go_enter Tryd.func66, Tryd.ntmps66
  go_wp2_with fail
  go_loopw [8] (fun vi wr => ∃ j : Nat, j ≤ ps.length ∧ vi = .int .i64 j ∧ Hid (∀ i (hi : i < ps.length), i < j → ps[i].1 ≠ key) ∧ Below w.heap.size w wr) (fun vi _ => ps.length - (intOf vi).toNat)
  case atStart => exact ⟨0, by omega, rfl, fun i _ hi => absurd hi (Nat.not_lt_zero _), Below.refl _ _⟩
  case round =>
    obtain ⟨j, hj, rfl, h0, hbw⟩ := hrel
    have hbw2 := bstep hw hbw hw.size
    have hk2 := cells_frame hbw hk
    by_cases hjl : j < ps.length
    · have KJ := Lib.hid (KH.out j hjl h0.out)
      obtain ⟨bl, ol, c0, c1, c2, c3, c4, c4l, c4c, c5, c5l, c5c, rfl, hc, r0, r1, r2, r3, r4, r5, r6⟩ := openM hbw2 hl h.rows hjl (h.each j hjl)
      clear hc
      go_wp2_with fail
      refine (drop1_any ps[j].1 c0 c1 c2 c3 c4 c4l c4c c5 c5l c5c key kb _ hk2).mono ?_
      rintro e w1 ⟨rfl, hb1⟩
      have hb2 := bstep hbw hb1 hbw.size
      by_cases he : ps[j].1 = key
      · have HR := Lib.hid (KJ.out he)
        rw [decide_eq_true he]
        clear he
        go_wp2_with fail
        go_ret
        exact ⟨ret_int HR.out.symm, hb2⟩
      · have HR := Lib.hid he
        rw [decide_eq_false he]
        clear he
        go_wp2_with fail
        go_roundw
        case rel => exact ⟨j + 1, by omega, by go_num, fun i hi hij => by
          by_cases e : i = j
          · subst e; exact HR.out
          · exact h0.out i hi (by omega), hb2⟩
        case measure => simp [intOf]; omega
    · obtain rfl : j = ps.length := by omega
      have HR := Lib.hid (KN.out fun i hi => h0.out i hi hi)
      go_wp2_with fail
      go_ret
      exact ⟨ret_int HR.out.symm, hbw⟩


/-- A copy in an own block is the same slice of pairs. -/
theorem own_slice {w0 w : World} {R : Nat → Prop} {ps : List (ByteArray × T)} {a : Option Addr} {c : Nat} {cm : Nat → Array Value} (h : SliceP w0 R ps a c cm) (hw : Below w0.heap.size w0 w) {base g n cap : Nat} (ho : OwnQ w base g n cap (qlist ps cm)) (hc : cap ≤ 9223372036854775807) (hn : n ≤ cap) :
    SliceP w (fun b => R b ∨ b = g) ps (some ⟨g, 0, none⟩) cap cm := by
  have e : n = ps.length := by rw [← ho.len, qlist_len]
  subst e
  refine ⟨⟨hn, h.hdr.big, by simp, fun _ => ⟨g, 0, rfl, .inr rfl⟩, hc⟩, fun i hi bl ol e j hj => ?_, h.keys, fun i hi => ((h.later hw).each i hi).weaken fun b hb => .inl hb⟩
  simp only [Option.some.injEq, Addr.mk.injEq, and_true] at e
  obtain ⟨rfl, rfl⟩ := e
  have hi2 : i < ((qlist ps cm).map qrow).length := by simpa [qlist] using hi
  have er : ((qlist ps cm).map qrow)[i] = #[Value.string (ps[i]).1] ++ cm i := by simp [qrow, qlist_get]
  have hj2 : j < (((qlist ps cm).map qrow)[i]).size := by rw [er]; exact hj
  have h7 := qlist_rows h _ (List.getElem_mem hi2)
  have hlt : i * 7 + j < ps.length * 7 := by omega
  have := flat_get _ (qlist_rows h) i hi2 j hj2
  rw [Nat.zero_add, ho.own.cellAt (i * 7 + j) hlt, flatQ, this]
  exact congrArg some (get_congr er j _ _)

/-- In the midst of DeleteFunc: i kept, of the first j; from j on as it was. -/
structure DelQ (w : World) (base g n cap : Nat) (key : ByteArray) (L : List Q) (i j : Nat) (C : List Q) : Prop where
  own : OwnQ w base g n cap C
  kept : C.take i = (L.take j).filter fun q => !decide (q.1 = key)
  rest : C.drop j = L.drop j
  lt : i < j
  le : j ≤ n

theorem DelQ.later {w w' : World} {base g n cap : Nat} {key : ByteArray} {L : List Q} {i j : Nat} {C : List Q} (h : DelQ w base g n cap key L i j C) (hb : Below w.heap.size w w') : DelQ w' base g n cap key L i j C := ⟨h.own.kept hb, h.kept, h.rest, h.lt, h.le⟩

theorem DelQ.at {w : World} {base g n cap : Nat} {key : ByteArray} {L : List Q} {i j : Nat} {C : List Q} (h : DelQ w base g n cap key L i j C) (hL : L.length = n) (hj : j < n) : ∃ (h1 : j < C.length) (h2 : j < L.length), C[j] = L[j] := by
  have h1 : j < C.length := by rw [h.own.len]; exact hj
  have h2 : j < L.length := by rw [hL]; exact hj
  refine ⟨h1, h2, ?_⟩
  have := congrArg (fun l => l[0]?) h.rest
  simp only [List.getElem?_drop, Nat.add_zero] at this
  rw [List.getElem?_eq_getElem h1, List.getElem?_eq_getElem h2] at this
  exact Option.some.inj this

theorem DelQ.skip {w : World} {base g n cap : Nat} {key : ByteArray} {L : List Q} {i j : Nat} {C : List Q} (h : DelQ w base g n cap key L i j C) (hL : L.length = n) (hj : j < n) (hk : ∀ h : j < L.length, L[j].1 = key) : DelQ w base g n cap key L i (j + 1) C := by
  have h2 : j < L.length := by rw [hL]; exact hj
  refine ⟨h.own, ?_, ?_, Nat.lt_succ_of_lt h.lt, hj⟩
  · rw [h.kept, List.take_succ_eq_append_getElem h2, List.filter_append]
    simp [hk h2]
  · rw [← List.drop_drop, ← List.drop_drop, h.rest]

theorem DelQ.step {w w' : World} {base g n cap : Nat} {key : ByteArray} {L : List Q} {i j : Nat} {C : List Q} (h : DelQ w base g n cap key L i j C) (hL : L.length = n) (hj : j < n) (hk : ∀ h : j < L.length, L[j].1 ≠ key)
    (ho : ∀ h : j < C.length, OwnQ w' base g n cap (C.set i C[j])) : ∃ h1 : j < C.length, DelQ w' base g n cap key L (i + 1) (j + 1) (C.set i C[j]) := by
  have hlt := h.lt
  obtain ⟨h1, h2, e⟩ := h.at hL hj
  have hi : i < C.length := by omega
  refine ⟨h1, ho h1, ?_, ?_, by omega, hj⟩
  · rw [List.take_succ_eq_append_getElem h2, List.filter_append, ← h.kept, List.take_succ_eq_append_getElem (by simpa using hi)]
    rw [List.take_set_of_le (Nat.le_refl i)]
    simp [hk h2, e]
  · rw [List.drop_set_of_lt (by omega), ← List.drop_drop, ← List.drop_drop, h.rest]

/-- One row written. -/
theorem OwnQ.put {w : World} {base g n cap : Nat} {C : List Q} (h : OwnQ w base g n cap C) (i : Nat) (hi : i < C.length) (q : Q) (hq : q ∈ C) :
    OwnQ (setRow w g (i * 7) (qrow q).toList) base g n cap (C.set i q) ∧ w.grownBy (setRow w g (i * 7) (qrow q).toList) (some g) := by
  have hs := qrow_size h
  have s0 : (qrow q).size = 7 := hs _ (List.mem_map.2 ⟨_, hq, rfl⟩)
  obtain ⟨o1, g1⟩ := own_setRow (qrow q).toList w (i * 7) _ h.own
  have e1 : setL (flatQ C) (i * 7) (qrow q).toList = flatQ (C.set i q) := by
    unfold flatQ
    rw [setL_flat _ hs i (by simpa using hi) _ s0, List.map_set]
  rw [e1] at o1
  refine ⟨⟨by simp [h.len], o1, fun k hk => ?_⟩, g1⟩
  have hm : (C.set i q)[k] ∈ C := by
    rcases List.mem_or_eq_of_mem_set (List.getElem_mem hk) with h1 | e
    · exact h1
    · rw [e]; exact hq
  obtain ⟨i', hi', e⟩ := List.getElem_of_mem hm
  rw [← e]
  exact h.six i' hi'

theorem setCells_setRow (g : Nat) : ∀ (vs : List Value) (w : World) (o : Nat), w.setCells g o vs = setRow w g o vs
  | [], _, _ => rfl
  | v :: r, w, o => by rw [World.setCells, setRow, setCells_setRow g r]

/-- The zeros of m pairs. -/
def zerosP (m : Nat) : List Value := (Builtin.zeroCells (Value.agg #[.string ⟨#[]⟩, .int .i64 0, .bool false, .int .i64 0, .string ⟨#[]⟩, .slice none 0 0, .slice none 0 0]).cells m).toList

theorem run_clearP (w : World) (ty : TypeId) (b o n c : Nat) (hn : 0 < n) (hz : ∀ w, (zeroValue 80).run Tryd.prog w = .ok (.agg #[.string ⟨#[]⟩, .int .i64 0, .bool false, .int .i64 0, .string ⟨#[]⟩, .slice none 0 0, .slice none 0 0]) w)
    (hc : ∀ j, j < n * 7 → (w.cell? ⟨b, o + j, none⟩).isSome = true) (hf : ∀ j, j < n * 7 → w.frozen? ⟨b, o + j, none⟩ = false) :
    (Builtin.clear_ #[34] ty #[.slice (some ⟨b, o, none⟩) n c]).run Tryd.prog w = .ok (.tuple #[]) (setRow w b o (zerosP n)) := by
  have hl : (zerosP n).length = n * 7 := by
    unfold zerosP
    simp [Builtin.zeroCells, Value.cells]
  have h1 : ∀ v ∈ zerosP n, v.oneCell' = true := fun v hv => by
    unfold zerosP Builtin.zeroCells at hv
    simp only [Value.cells] at hv
    obtain ⟨x, _, rfl⟩ := Array.mem_map.1 (Array.mem_toList_iff.1 hv)
    have hx : x % 7 < 7 := Nat.mod_lt _ (by omega)
    show (#[Value.string ⟨#[]⟩, .int .i64 0, .bool false, .int .i64 0, .string ⟨#[]⟩, .slice none 0 0, .slice none 0 0][x % 7]!).oneCell' = true
    generalize x % 7 = y at hx
    rcases (by omega : y = 0 ∨ y = 1 ∨ y = 2 ∨ y = 3 ∨ y = 4 ∨ y = 5 ∨ y = 6) with rfl | rfl | rfl | rfl | rfl | rfl | rfl <;> rfl
  have hst := run_storeCells_cells (P := Tryd.prog) b o (zerosP n) 0 w (by rw [hl]; simpa using hc) (by rw [hl]; simpa using hf) h1
  simp only [Nat.add_zero] at hst
  rw [setCells_setRow] at hst
  obtain ⟨m, rfl⟩ : ∃ m, n = m + 1 := ⟨n - 1, by omega⟩
  unfold zerosP at *
  simp [Builtin.clear_, run_underlying Tryd.underlying34, hz, hst]


theorem one_boxD {w w1 : World} {cs : Array Value} {ty : TypeId} (h : Below (w.alloc (.cells cs ty)).heap.size (w.alloc (.cells cs ty)) w1) :
    (∀ j, w1.cell? ⟨w.heap.size, j, none⟩ = cs[j]?) ∧ (∀ j, w1.frozen? ⟨w.heap.size, j, none⟩ = false) :=
  ⟨fun j => by rw [h.cell (p := ⟨w.heap.size, j, none⟩) (by simp), World.cell?_alloc_new], fun j => by rw [h.frozen (p := ⟨w.heap.size, j, none⟩) (by simp), World.frozen?_alloc_new]⟩

/-- What DeleteFunc leaves. -/
def LeftP (w : World) (base g cap : Nat) (key : ByteArray) (L : List Q) (e : Ending) (w' : World) : Prop :=
  ∃ K : List Q, K = L.filter (fun q => !decide (q.1 = key)) ∧ e = .returned (.slice (some ⟨g, 0, none⟩) K.length cap) ∧ (∀ i (h : i < K.length), ∀ j, j < 7 → w'.cell? ⟨g, i * 7 + j, none⟩ = (qrow K[i])[j]?) ∧ K.length ≤ cap ∧ w.grownBy w' (some g)

theorem no_key (L : List Q) (key : ByteArray) (h : keyIx (L.map strip) key < 0) : L.filter (fun q => !decide (q.1 = key)) = L := by
  rw [List.filter_eq_self]
  intro q hq
  unfold keyIx at h
  cases hx : (L.map strip).findIdx? fun p => decide (p.1 = key) with
  | none =>
    have := List.findIdx?_eq_none_iff.1 hx (strip q) (List.mem_map.2 ⟨q, hq, rfl⟩)
    have h2 := of_decide_eq_false this
    have h3 : ¬ q.1 = key := h2
    simp [h3]
  | some i => rw [hx] at h; simp at h; omega

theorem hit_key (L : List Q) (key : ByteArray) (i : Nat) (h : keyIx (L.map strip) key = i) : ∃ hi : i < L.length, L[i].1 = key ∧ (L.take (i + 1)).filter (fun q => !decide (q.1 = key)) = L.take i := by
  unfold keyIx at h
  cases hx : (L.map strip).findIdx? fun p => decide (p.1 = key) with
  | none => rw [hx] at h; simp only at h; omega
  | some i' =>
    rw [hx] at h
    simp only at h
    obtain rfl : i' = i := by omega
    obtain ⟨h1, h2, h3⟩ := List.findIdx?_eq_some_iff_getElem.1 hx
    have hi : i' < L.length := by simpa using h1
    have hk : L[i'].1 = key := by simpa [strip] using h2
    refine ⟨hi, hk, ?_⟩
    rw [List.take_succ_eq_append_getElem hi, List.filter_append]
    have e1 : (L.take i').filter (fun q => !decide (q.1 = key)) = L.take i' := by
      rw [List.filter_eq_self]
      intro q hq
      obtain ⟨k, hk', rfl⟩ := List.getElem_of_mem hq
      have hk2 : k < i' := by simp at hk'; omega
      have := h3 k hk2
      have h4 : ¬ ((L.map strip)[k]'(by rw [List.length_map]; omega)).1 = key := by simpa using this
      rw [List.getElem_map] at h4
      have h5 : ¬ (L[k]'(by omega)).1 = key := h4
      rw [List.getElem_take]
      simp [h5]
    rw [e1]
    simp [hk]

theorem OwnQ.cells {w : World} {base g n cap : Nat} {C : List Q} (h : OwnQ w base g n cap C) (i : Nat) (hi : i < C.length) (j : Nat) (hj : j < 7) : w.cell? ⟨g, i * 7 + j, none⟩ = (qrow C[i])[j]? := by
  have hi2 : i < (C.map qrow).length := by simpa using hi
  have er : (C.map qrow)[i] = qrow C[i] := by simp
  have s0 : (qrow C[i]).size = 7 := qrow_size h _ (List.mem_map.2 ⟨_, List.getElem_mem hi, rfl⟩)
  have hn := h.len
  rw [h.own.cellAt (i * 7 + j) (by omega)]
  have := flat_get (C.map qrow) (qrow_size h) i hi2 j (by rw [er, s0]; exact hj)
  rw [flatQ, this, Array.getElem?_eq_getElem (by rw [s0]; exact hj)]
  exact congrArg some (get_congr er j _ _)

set_option maxHeartbeats 4000000 in
set_option maxRecDepth 100000 in
theorem deleteP_any {w0 : World} {R : Nat → Prop} {ps : List (ByteArray × T)} {a : Option Addr} {c : Nat} {cm : Nat → Array Value} (hS : SliceP w0 R ps a c cm) {base g n cap : Nat} (key : ByteArray) (kb : Nat) (w : World) (hw : Below w0.heap.size w0 w)
    (ho : OwnQ w base g n cap (qlist ps cm)) (hc : cap ≤ 9223372036854775807) (hn : n ≤ cap) (hkb : kb ≠ g) (hk : w.cell? ⟨kb, 0, none⟩ = some (.string key)) :
    Calls Tryd.prog 54 #[.slice (some ⟨g, 0, none⟩) n cap, .func (Fn.func 56) #[] #[.pointer (some ⟨kb, 0, none⟩)]] w (LeftP w base g cap key (qlist ps cm)) := by
  have hOS := own_slice hS hw ho hc hn
  have hnx : n * 104 ≤ 140737488355328 := by have := hS.hdr.big; have := ho.len; rw [qlist_len] at this; omega
  have en : n = ps.length := by rw [← ho.len, qlist_len]
  have HI := Lib.hid (indexD_any hOS key kb w (Below.refl _ _) hk)
  rw [← en] at HI
  have hq : (qlist ps cm).map strip = ps := strip_qlist ps cm
  have hL := Lib.hid (show (qlist ps cm).length = n from ho.len)
  generalize qlist ps cm = L at *
  have HO := Lib.hid ho
  clear hOS ho en hS
  go_enter Tryd.func54, Tryd.ntmps54
  go_wp2_with fail
  refine HI.out.mono ?_
  rintro e w1 ⟨rfl, hb1⟩
  by_cases hneg : keyIx ps key < 0
  · have e0 : keyIx ps key = -1 := by
      unfold keyIx at hneg ⊢
      cases hx : ps.findIdx? fun p => decide (p.1 = key) with
      | none => rfl
      | some i => rw [hx] at hneg; simp at hneg; omega
    have HF := Lib.hid (no_key L key (by rw [hq]; exact hneg))
    rw [e0]
    clear hneg e0
    go_wp2_with fail
    go_ret
    have h1 := HO.out.kept hb1
    refine ⟨L, HF.out.symm, by have e := hL.out; show Ending.returned (Value.slice _ n cap) = _; rw [e], fun i hi j hj => h1.cells i hi j hj, by rw [hL.out]; exact hn, grown_of_below hb1 _⟩
  · obtain ⟨i0, hi0⟩ : ∃ i : Nat, keyIx ps key = i := ⟨(keyIx ps key).toNat, by omega⟩
    obtain ⟨hil, hik, hif⟩ := hit_key L key i0 (by rw [hq]; exact hi0)
    rw [hi0]
    have hln := hL.out
    have hD0 : DelQ w1 base g n cap key L i0 (i0 + 1) L := ⟨HO.out.kept hb1, hif.symm, rfl, Nat.lt_succ_self _, by omega⟩
    have HD0 := Lib.hid hD0
    have hkb1 := cells_frame hb1 hk
    have hin : i0 < n := by omega
    have ne1 : ((i0 : Int) == -1) = false := by simp
    clear hneg hi0 hik hif hD0 hil hln
    go_wp2_with fail
    go_loopw [5, 6] (fun vi vj wr => ∃ (i j : Nat) (C : List Q), vi = .int .i64 i ∧ vj = .int .i64 j ∧ DelQ wr base g n cap key L i j C ∧ w1.grownBy wr (some g)) (fun _ vj _ => n - (intOf vj).toNat)
    case atStart => exact ⟨i0, i0 + 1, L, rfl, rfl, HD0.out, World.grownBy.refl _ _⟩
    case round =>
      obtain ⟨i, j, C, rfl, rfl, hD, hG⟩ := hrel
      have hlt := hD.lt
      have hle := hD.le
      have HD := Lib.hid hD
      have HG := Lib.hid hG
      have hkr : wr.cell? ⟨kb, 0, none⟩ = some (.string key) := by rw [World.cell?_of_block (hG.block _ (World.block_lt_of_cell? _ _ hkb1) (by simpa using hkb))]; exact hkb1
      clear hD hG
      by_cases hjn : j < n
      · obtain ⟨h1, h2, eCL⟩ := HD.out.at hL.out hjn
        obtain ⟨c0, c1, c2, c3, c4, c4l, c4c, c5, c5l, c5c, ec, r0, r1, r2, r3, r4, r5, r6⟩ := HD.out.own.row j h1
        have P1 := drop1_any C[j].1 c0 c1 c2 c3 c4 c4l c4c c5 c5l c5c key kb
        have SK := Lib.hid (HD.out.skip hL.out hjn)
        have ST := Lib.hid (fun w' hk => HD.out.step (w' := w') hL.out hjn hk)
        have eq : qrow C[j] = #[.string C[j].1, .int .i64 c0, .bool c1, .int .i64 c2, .string c3, .slice c4 c4l c4c, .slice c5 c5l c5c] := by simp [qrow, ec]
        have hi : i < C.length := by omega
        have PU := Lib.hid (fun (wx : World) (hx : Below wr.heap.size wr wx) => (HD.out.later hx).own.put i hi C[j] (List.getElem_mem h1))
        rw [eq] at PU
        rw [eCL] at r0 P1 PU eq
        have P2 := Lib.hid P1
        have HE := Lib.hid eCL
        clear P1 ec eq eCL
        go_wp2_with fail
        refine (P2.out _ (cells_frame (bbox (Below.refl wr.heap.size wr) _ (Nat.le_refl _)) hkr)).mono ?_
        rintro e w2 ⟨rfl, hb2⟩
        have hbr := bunbox hb2 (Nat.le_refl _) (by simp)
        have PX := Lib.hid (PU.out _ hbr)
        obtain ⟨z1, z2⟩ := one_boxD hb2
        by_cases he : L[j].1 = key
        · have HS := Lib.hid (SK.out fun h => he)
          rw [decide_eq_true he]
          clear he
          go_wp2_with fail
          go_roundw
          case rel => exact ⟨i, j + 1, C, rfl, by go_num, HS.out.later hbr, grown_trans HG.out (grown_of_below hbr _)⟩
          case measure => simp [intOf]; omega
        · have HS := Lib.hid (fun w' => ST.out w' fun h e => he e)
          rw [decide_eq_false he]
          clear he
          have x0 := z1 0
          have x1 := z1 1
          have x2 := z1 2
          have x3 := z1 3
          have x4 := z1 4
          have x5 := z1 5
          have x6 := z1 6
          simp at x0 x1 x2 x3 x4 x5 x6
          have fz : ∀ k, w2.frozen? ⟨g, k, none⟩ = false := fun k => (HD.out.later hbr).own.own.frozenAt k
          obtain ⟨d0, d1, d2, d3, d4, d4l, d4c, d5, d5l, d5c, ed, s0, s1, s2, s3, s4, s5, s6⟩ := (HD.out.later hbr).own.row i hi
          clear ed
          have HS2 := Lib.hid (HS.out _ fun h => by rw [HE.out]; exact PX.out.1)
          clear HS
          go_wp2_with fail
          go_roundw
          case rel => exact ⟨i + 1, j + 1, _, by go_num, by go_num, HS2.out.2, grown_trans HG.out (grown_trans (grown_of_below hbr _) PX.out.2)⟩
          case measure => simp [intOf]; omega
      · obtain rfl : j = n := by omega
        have hin2 : i < j := hlt
        have hci : ¬ cap = i := by omega
        have own := HD.out.own
        have hcl : ∀ ty, (Builtin.clear_ #[34] ty #[.slice (some ⟨g, i * 7, none⟩) (j - i) (cap - i)]).run Tryd.prog wr = .ok (.tuple #[]) (setRow wr g (i * 7) (zerosP (j - i))) :=
          fun ty => run_clearP wr ty g (i * 7) (j - i) _ (by omega) (fun w => by kernel_rfl) (fun k hk => by rw [own.own.cellAt (i * 7 + k) (by omega), List.getElem?_eq_getElem (by unfold flatQ; rw [flat_len _ (qrow_size own), List.length_map, own.len]; omega)]; rfl) (fun k hk => own.own.frozenAt _)
        have HCL := Lib.hid hcl
        have HC := Lib.hid (fun k (hk : k < i) (hk2 : k < C.length) => own.cells k hk2)
        have HG2 := Lib.hid (own_setRow (zerosP (j - i)) wr (i * 7) _ own.own).2
        have hCl : C.length = j := own.len
        clear own hcl
        go_wp2_with (simp only [HCL.out])
        go_ret
        have hli : (C.take i).length = i := by rw [List.length_take]; omega
        refine ⟨C.take i, ?_, ?_, fun k hk m hm => ?_, by rw [hli]; omega, grown_trans (grown_of_below hb1 _) (grown_trans HG.out HG2.out)⟩
        · rw [HD.out.kept, ← hL.out, List.take_length]
        · show Ending.returned (Value.slice _ i cap) = _
          rw [hli]
        · rw [setRow_low _ _ _ _ _ (by omega), HC.out k (by omega) (by omega) m hm]
          simp


/-! ### Of no pairs -/

theorem wfk5 : (Lit.int .i64 5).wf = true := by decide
theorem wfk0 : (Lit.int .i64 0).wf = true := by decide
theorem empty_s : (⟨#[]⟩ : ByteArray).size ≤ 140737488355328 := Nat.zero_le _
theorem empty_sV (w : World) (R : Nat → Prop) : SliceV w R [] none 0 (fun _ => #[]) := ⟨⟨by simp, by simp, fun _ => rfl, fun hp => absurd hp (by simp), by omega⟩, fun i hi => absurd hi (by simp), fun i hi => absurd hi (by simp)⟩

theorem empty_any (w : World) (R : Nat → Prop) {a : Option Addr} {c : Nat} (h0 : a = none → c = 0) (hc : c ≤ 9223372036854775807) : SliceP w R [] a c (fun _ => #[]) :=
  ⟨⟨by simp, by simp, h0, fun hp => absurd hp (by simp), hc⟩, fun i hi => absurd hi (by simp), fun i hi => absurd hi (by simp), fun i hi => absurd hi (by simp)⟩

theorem deleteP_zero {a : Option Addr} {c : Nat} (h0 : a = none → c = 0) (hc : c ≤ 9223372036854775807) (key : ByteArray) (kb : Nat) (w : World) (hk : w.cell? ⟨kb, 0, none⟩ = some (.string key)) :
    Calls Tryd.prog 54 #[.slice a 0 c, .func (Fn.func 56) #[] #[.pointer (some ⟨kb, 0, none⟩)]] w fun e w' => e = .returned (.slice a 0 c) ∧ Below w.heap.size w w' := by
  have HI := Lib.hid (indexD_any (empty_any w (fun _ => True) h0 hc) key kb w (Below.refl _ _) hk)
  go_enter Tryd.func54, Tryd.ntmps54
  go_wp2_with fail
  refine HI.out.mono ?_
  rintro e w1 ⟨rfl, hb1⟩
  have e0 : keyIx [] key = -1 := rfl
  rw [e0]
  go_wp2_with fail
  go_ret
  exact ⟨rfl, hb1⟩

def Copied0 (w : World) (e : Ending) (w' : World) : Prop := ∃ a c, e = .returned (.slice a 0 c) ∧ (a = none → c = 0) ∧ c ≤ 9223372036854775807 ∧ Below w.heap.size w w'

theorem sCloneP_zero {a : Option Addr} {c : Nat} (w : World) : Calls Tryd.prog 55 #[.slice a 0 c] w (Copied0 w) := by
  cases a with
  | none =>
    have hq : ∀ wx : World, (binOp .eql 34 (.slice none 0 c) (.slice none 0 0)).run Tryd.prog wx = .ok (.bool true) wx := fun wx => Lib.run_eql_slice_nil wx 34 80 _ _ _ _ _ Tryd.underlying34
    go_enter Tryd.func55, Tryd.ntmps55
    go_wp2_with fail
    go_ret
    exact ⟨none, 0, rfl, fun _ => rfl, by omega, Below.refl _ _⟩
  | some ad =>
    have hq : ∀ wx : World, (binOp .eql 34 (.slice (some ad) 0 c) (.slice none 0 0)).run Tryd.prog wx = .ok (.bool false) wx := fun wx => Lib.run_eql_slice_nil wx 34 80 _ _ _ _ _ Tryd.underlying34
    go_enter Tryd.func55, Tryd.ntmps55
    go_wp2_with fail
    go_ret
    exact ⟨some ⟨w.heap.size, 0, none⟩, 0, rfl, fun _ => rfl, by omega, (Below.refl _ _).alloc (Nat.le_refl _) _⟩


theorem dropR_strip (key : ByteArray) (L : List Q) : (L.filter fun q => !decide (q.1 = key)).map strip = dropR key (L.map strip) := by
  unfold dropR
  rw [List.filter_map]
  rfl

/-- What DeleteFunc leaves of a copy, as a slice of pairs. -/
theorem left_slice {w0 w2 : World} {R : Nat → Prop} {ps : List (ByteArray × T)} {a : Option Addr} {c : Nat} {cm : Nat → Array Value} (h : SliceP w0 R ps a c cm) (hw : Below w0.heap.size w0 w2) {g cap : Nat} (K : List Q) (key : ByteArray) (hK : K = (qlist ps cm).filter (fun q => !decide (q.1 = key)))
    (hc : ∀ i (h : i < K.length), ∀ j, j < 7 → w2.cell? ⟨g, i * 7 + j, none⟩ = (qrow K[i])[j]?) (hle : K.length ≤ cap) (hmax : cap ≤ 9223372036854775807) :
    SliceP w2 (fun _ => True) (dropR key ps) (some ⟨g, 0, none⟩) cap (fun i => ((K[i]?).map (·.2.2)).getD #[]) ∧ K.length = (dropR key ps).length := by
  have hstrip : K.map strip = dropR key ps := by rw [hK, dropR_strip, strip_qlist]
  have hlen : K.length = (dropR key ps).length := by rw [← hstrip, List.length_map]
  have hmem : ∀ q ∈ K, Lies w0 R q.2.1 q.2.2 ∧ q.1.size ≤ 140737488355328 := fun q hq => by
    rw [hK] at hq
    have hq2 := (List.mem_filter.1 hq).1
    obtain ⟨i, hi, rfl⟩ := List.getElem_of_mem hq2
    have hi' : i < ps.length := by simpa [qlist] using hi
    rw [qlist_get]
    exact ⟨h.each i hi', h.keys i hi'⟩
  have hll : K.length ≤ ps.length := by
    rw [hK]
    have := List.length_filter_le (fun q : Q => !decide (q.1 = key)) (qlist ps cm)
    rw [qlist_len] at this
    exact this
  have hbig := h.hdr.big
  have hget : ∀ i (hi : i < (dropR key ps).length), ∃ hk : i < K.length, (dropR key ps)[i] = strip K[i] := fun i hi => by
    have hk : i < K.length := by omega
    refine ⟨hk, ?_⟩
    have : (dropR key ps)[i]? = (K.map strip)[i]? := by rw [hstrip]
    rw [List.getElem?_eq_getElem hi, List.getElem?_map, List.getElem?_eq_getElem hk] at this
    exact Option.some.inj this
  refine ⟨⟨⟨by omega, by omega, by simp, fun _ => ⟨g, 0, rfl, trivial⟩, hmax⟩, fun i hi bl ol e j hj => ?_, fun i hi => ?_, fun i hi => ?_⟩, hlen⟩
  · simp only [Option.some.injEq, Addr.mk.injEq, and_true] at e
    obtain ⟨rfl, rfl⟩ := e
    obtain ⟨hk, e⟩ := hget i hi
    have e2 : #[Value.string ((dropR key ps)[i]).1] ++ ((K[i]?).map (·.2.2)).getD #[] = qrow K[i] := by rw [e]; simp [qrow, strip, List.getElem?_eq_getElem hk]
    have s7 : (qrow K[i]).size = 7 := by have := (hmem K[i] (List.getElem_mem hk)).1.size6; simp [qrow, this]
    have hj7 : j < (qrow K[i]).size := by rw [← e2]; exact hj
    rw [Nat.zero_add, hc i hk j (by omega), Array.getElem?_eq_getElem hj7]
    exact congrArg some (get_congr e2.symm j _ _)
  · obtain ⟨hk, e⟩ := hget i hi
    rw [e]
    exact (hmem K[i] (List.getElem_mem hk)).2
  · obtain ⟨hk, e⟩ := hget i hi
    rw [e, List.getElem?_eq_getElem hk]
    exact (((hmem K[i] (List.getElem_mem hk)).1).later hw).weaken fun _ _ => trivial

def DropIn (w : World) (t : T) (e : Ending) (w' : World) : Prop := ∃ ds, e = .returned (.agg ds) ∧ Lies w' (fun b => w.heap.size ≤ b) t ds ∧ Below w.heap.size w w'

set_option maxRecDepth 100000 in
set_option maxHeartbeats 1600000 in
theorem tDrop_any {w0 : World} {R : Nat → Prop} {t : T} {cs : Array Value} (h : Lies w0 R t cs) (key : ByteArray) (w : World) (hw : Below w0.heap.size w0 w) :
    Calls Tryd.prog 42 #[.agg cs, .string key] w (DropIn w (t.drop key)) := by
  have CC := Lib.hid (tClone_any h)
  cases h with
  | mk k b n s l m la lc ma mc cl cm hk hn hs hl hm rl rm ks il im =>
    have HP : Hid (SliceP w0 R m ma mc cm) := ⟨hm, rm, ks, im⟩
    have hmax := hm.max
    have hle := hm.le
    have hnone := Lib.hid hm.none
    have h3 := Lib.hid ((((Below.refl w.heap.size w).alloc (Nat.le_refl _) (.cells #[.int .i64 k, .bool b, .int .i64 n, .string s, .slice la l.length lc, .slice ma m.length mc] 36)).alloc (by simp) (.cells #[.string key] 9)).alloc (by simp; omega) (.cells #[.int .i64 0, .bool false, .int .i64 0, .string ⟨#[]⟩, .slice none 0 0, .slice none 0 0] 36))
    clear hk hn hs hl hm rl rm ks il im
    by_cases h5 : k = 5
    case neg =>
      have HT : Hid ((T.mk k b n s l m).drop key = T.mk k b n s l m) := by
        show T.drop _ _ = _
        rw [T.drop, if_neg (show ¬ (T.mk k b n s l m).kind = 5 from h5)]
      have f1 : (k != 5) = true := by simp [h5]
      rw [HT.out]
      clear h5
      go_enter Tryd.func42, Tryd.ntmps42
      go_wp2_with fail
      refine (CC.out _ (bstep hw h3.out hw.size)).mono ?_
      rintro e w1 ⟨ds, rfl, hL, hb1⟩
      obtain ⟨d0, d1, d2, d3, d4, d4l, d4c, d5, d5l, d5c, rfl⟩ := hL.six
      obtain ⟨q0, q1, q2, q3⟩ := three_boxes hb1 (by simp)
      have Q2 := Lib.hid q2
      have HL := Lib.hid hL
      have HB := Lib.hid hb1
      have hs1 := hb1.size
      simp only [World.size_alloc] at hs1
      have z2 : ∀ j, w1.cell? ⟨w.heap.size + 1 + 1, j, none⟩ = _ := q2
      have z3 : ∀ j, w1.frozen? ⟨w.heap.size + 1 + 1, j, none⟩ = _ := q3
      clear q0 q1 q2 q3 hL hb1
      go_wp2_with fail
      obtain ⟨dd, hu, hdd⟩ := Tryd.structV
      refine ret_cells w1 (w.heap.size + 2) [.int .i64 d0, .bool d1, .int .i64 d2, .string d3, .slice d4 d4l d4c, .slice d5 d5l d5c] rfl Tryd.results42 rfl rfl hdd hu Tryd.sizeV (fun i hi => ⟨_, (Q2.out i).trans (Array.getElem?_eq_getElem (show i < 6 from hi))⟩) ?_
      refine ⟨_, rfl, (HL.out.keep (fun x hx => setRow_heap _ _ _ _ _ (by simp only [World.size_alloc] at hx; omega))).weaken (fun x hx => by simp only [World.size_alloc] at hx; omega), setRow_below _ (by omega) _ _ _ (bstep h3.out HB.out (by simp; omega))⟩
    case pos =>
      subst h5
      have HT : Hid ((T.mk 5 b n s l m).drop key = T.mk 5 false 0 ⟨#[]⟩ [] (dropR key m)) := by
        show T.drop _ _ = _
        rw [T.drop, if_pos (show (T.mk 5 b n s l m).kind = 5 from rfl)]
        rfl
      rw [HT.out]
      go_enter Tryd.func42, Tryd.ntmps42
      by_cases hm0 : 0 < m.length
      · have HC := Lib.hid (sCloneP_any (HP.out.later (bstep hw h3.out hw.size)) hm0)
        go_wp2_with fail
        refine HC.out.mono ?_
        rintro e w1 ⟨g, cap1, rfl, hge, hgl, hO, hB⟩
        have hown := hO.own
        have hcap : cap1 ≤ 9223372036854775807 ∧ m.length ≤ cap1 := by
          rcases hown.2 with ⟨e, _⟩ | ⟨g', cap', cur, e, _, _, hnc, hcm, _⟩
          · cases e
          · simp at e
            unfold maxLen at hcm
            omega
        obtain ⟨q0, q1, q2, q3⟩ := three_boxes hB (by simp)
        have hA1 := bstep h3.out hB (by simp; omega)
        have hs1 := hB.size
        simp only [World.size_alloc] at hs1 hge
        have k1 : w1.cell? ⟨w.heap.size + 1, 0, none⟩ = some (.string key) := q1 0
        have HD := Lib.hid (deleteP_any HP.out key (w.heap.size + 1) w1 (bstep hw hA1 hw.size) hO hcap.1 hcap.2 (by omega) k1)
        have Q2 := Lib.hid q2
        have Q3 := Lib.hid q3
        have HC1 := Lib.hid hcap
        clear q0 q1 q2 q3 hown hO hB hcap
        go_wp2_with fail
        refine HD.out.mono ?_
        rintro e w2 ⟨K, hK, rfl, hcell, hKle, hG⟩
        have hA2 := hA1.grown hG (by omega) (by simp; omega)
        obtain ⟨hSl, hKl⟩ := left_slice HP.out (bstep hw hA2 hw.size) K key hK hcell hKle HC1.out.1
        have HCP := Lib.hid (clonePairs_any hSl (fun i p w hw => tClone_any (hSl.each i p) w hw) w2 (Below.refl _ _))
        rw [← hKl] at HCP
        have HKL := Lib.hid hKl
        have hs2 := hG.size
        have hgk : ∀ x, x < w.heap.size + 3 → w2.heap[x]? = w1.heap[x]? := fun x hx => hG.block x (by omega) (by simp; omega)
        clear hK hcell hSl hKl hG
        go_wp2_with fail
        refine HCP.out.mono ?_
        rintro e w3 ⟨a3, c3, dl3, rfl, hS3, hb3⟩
        have hA3 := Lib.hid (bstep hA2 hb3 hA2.size)
        have z2 : ∀ j, w3.cell? ⟨w.heap.size + 1 + 1, j, none⟩ = _ := fun j => (hb3.cell (p := ⟨w.heap.size + 2, j, none⟩) (by simp only; omega)).trans ((World.cell?_of_block (hgk (w.heap.size + 2) (by omega))).trans (Q2.out j))
        have z3 : ∀ j, w3.frozen? ⟨w.heap.size + 1 + 1, j, none⟩ = _ := fun j => (hb3.frozen (p := ⟨w.heap.size + 2, j, none⟩) (by simp only; omega)).trans ((World.frozen?_of_block (hgk (w.heap.size + 2) (by omega))).trans (Q3.out j))
        have HS3 := Lib.hid hS3
        clear hS3 hgk hb3
        go_wp2_with fail
        obtain ⟨dd, hu, hdd⟩ := Tryd.structV
        refine ret_cells w3 (w.heap.size + 2) [.int .i64 5, .bool false, .int .i64 0, .string ⟨#[]⟩, .slice none 0 0, .slice a3 (dropR key m).length c3] rfl Tryd.results42 rfl rfl hdd hu Tryd.sizeV (fun i hi => ⟨_, (z2 i).trans (Array.getElem?_eq_getElem (show i < 6 from hi))⟩) ?_
        refine ⟨_, rfl, Lies.of_slices wfk5 wfk0 empty_s (empty_sV _ _) ((HS3.out.keepB (fun x hx _ => ?_)).weaken (fun x hx => ?_)), setRow_below _ (by omega) _ _ _ hA3.out⟩
        · exact setRow_heap _ _ _ _ _ (by omega)
        · omega
      · have em : m = [] := List.eq_nil_of_length_eq_zero (by omega)
        subst em
        go_wp2_with fail
        refine (sCloneP_zero _).mono ?_
        rintro e w1 ⟨a1, c1, rfl, hn1, hc1, hB⟩
        obtain ⟨q0, q1, q2, q3⟩ := three_boxes hB (by simp)
        have hA1 := bstep h3.out hB (by simp; omega)
        have hs1 := hB.size
        simp only [World.size_alloc] at hs1
        have k1 : w1.cell? ⟨w.heap.size + 1, 0, none⟩ = some (.string key) := q1 0
        have HD := Lib.hid (deleteP_zero hn1 hc1 key (w.heap.size + 1) w1 k1)
        have Q2 := Lib.hid q2
        have Q3 := Lib.hid q3
        have N1 := Lib.hid hn1
        clear q0 q1 q2 q3 hB hn1
        go_wp2_with fail
        refine HD.out.mono ?_
        rintro e w2 ⟨rfl, hb2⟩
        have hA2 := bstep hA1 hb2 hA1.size
        have hSl := empty_any w2 (fun _ => True) N1.out hc1
        have HCP := Lib.hid (clonePairs_any hSl (fun i p w hw => tClone_any (hSl.each i p) w hw) w2 (Below.refl _ _))
        have hs2 := hb2.size
        clear hSl
        go_wp2_with fail
        refine HCP.out.mono ?_
        rintro e w3 ⟨a3, c3, dl3, rfl, hS3, hb3⟩
        have hA3 := Lib.hid (bstep hA2 hb3 hA2.size)
        have hb23 := bstep hb2 hb3 hb2.size
        have z2 : ∀ j, w3.cell? ⟨w.heap.size + 1 + 1, j, none⟩ = _ := fun j => (hb23.cell (p := ⟨w.heap.size + 2, j, none⟩) (by simp only; omega)).trans (Q2.out j)
        have z3 : ∀ j, w3.frozen? ⟨w.heap.size + 1 + 1, j, none⟩ = _ := fun j => (hb23.frozen (p := ⟨w.heap.size + 2, j, none⟩) (by simp only; omega)).trans (Q3.out j)
        have HS3 := Lib.hid hS3
        clear hS3 hb3 hb2 hb23
        go_wp2_with fail
        obtain ⟨dd, hu, hdd⟩ := Tryd.structV
        refine ret_cells w3 (w.heap.size + 2) [.int .i64 5, .bool false, .int .i64 0, .string ⟨#[]⟩, .slice none 0 0, .slice a3 0 c3] rfl Tryd.results42 rfl rfl hdd hu Tryd.sizeV (fun i hi => ⟨_, (z2 i).trans (Array.getElem?_eq_getElem (show i < 6 from hi))⟩) ?_
        refine ⟨_, rfl, Lies.of_slices (m := []) wfk5 wfk0 empty_s (empty_sV _ _) ((HS3.out.keepB (fun x hx _ => ?_)).weaken (fun x hx => ?_)), setRow_below _ (by omega) _ _ _ hA3.out⟩
        · exact setRow_heap _ _ _ _ _ (by omega)
        · omega

end Go.Proofs.YtbbpipjadniafaaDoor
