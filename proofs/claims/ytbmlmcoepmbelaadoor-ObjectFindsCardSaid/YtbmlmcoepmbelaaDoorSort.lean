/-
  The library's insertion sort of pairs, by their keys.
-/
import Derived.Test.YtbmlmcoepmbelaaDoorCloneP
import Derived.Test.YtbmlmcoepmbelaaDoorOpenM
import Derived.Lib.QuietBelow
import Derived.RegionTactic
set_option linter.unusedVariables false
set_option linter.unusedSimpArgs false
namespace Go.Proofs.YtbmlmcoepmbelaaDoor
open Go.RowKit Go.Sort

/-- A pair with the cells of its value. -/
abbrev Q := ByteArray × T × Array Value
def qrow (q : Q) : Array Value := #[Value.string q.1] ++ q.2.2
def flatQ (L : List Q) : List Value := (L.map qrow).flatMap Array.toList
def ltQ (x y : ByteArray) : Bool := decide (cmpS x y < 0)

section
variable {α : Type} (key : α → ByteArray)
def bubL : Nat → List α → List α
  | 0, L => L
  | j + 1, L => match L[j + 1]?, L[j]? with
    | some x, some y => if ltQ (key x) (key y) then bubL j ((L.set (j + 1) y).set j x) else L
    | _, _ => L
def insN : Nat → List α → List α
  | 0, L => L
  | i + 1, L => bubL key i (insN i L)
theorem bubL_len : ∀ (j : Nat) (L : List α), (bubL key j L).length = L.length
  | 0, L => rfl
  | j + 1, L => by
    rw [bubL]
    split
    · split
      · rw [bubL_len j]; simp
      · rfl
    · rfl
theorem insN_len : ∀ (i : Nat) (L : List α), (insN key i L).length = L.length
  | 0, _ => rfl
  | i + 1, L => by rw [insN, bubL_len, insN_len i]
theorem bubL_step (j : Nat) (L : List α) (h : j + 1 < L.length) (hl : ltQ (key L[j + 1]) (key L[j]) = true) : bubL key (j + 1) L = bubL key j ((L.set (j + 1) L[j]).set j L[j + 1]) := by
  rw [bubL, List.getElem?_eq_getElem h, List.getElem?_eq_getElem (by omega : j < L.length)]
  simp only [hl, if_true]
theorem bubL_stop (j : Nat) (L : List α) (h : j + 1 < L.length) (hl : ltQ (key L[j + 1]) (key L[j]) = false) : bubL key (j + 1) L = L := by
  rw [bubL, List.getElem?_eq_getElem h, List.getElem?_eq_getElem (by omega : j < L.length)]
  simp [hl]
theorem mem_bubL : ∀ (j : Nat) (L : List α) (x : α), x ∈ bubL key j L → x ∈ L
  | 0, L, x, h => h
  | j + 1, L, x, h => by
    rw [bubL] at h
    split at h
    · rename_i x' y' h1 h2
      split at h
      · have := mem_bubL j _ x h
        rcases List.mem_or_eq_of_mem_set this with h3 | rfl
        · rcases List.mem_or_eq_of_mem_set h3 with h4 | rfl
          · exact h4
          · exact List.mem_of_getElem? h2
        · exact List.mem_of_getElem? h1
      · exact h
    · exact h
theorem mem_insN : ∀ (i : Nat) (L : List α) (x : α), x ∈ insN key i L → x ∈ L
  | 0, _, _, h => h
  | i + 1, L, x, h => mem_insN i L x (mem_bubL key i _ x h)
end

theorem grown_trans {a b c : World} {row : Option Nat} (h : a.grownBy b row) (k : b.grownBy c row) : a.grownBy c row :=
  ⟨k.os.trans h.os, k.tape.trans h.tape, k.output.trans h.output, Nat.le_trans h.size k.size, fun i hi hne => (k.block i (Nat.lt_of_lt_of_le hi h.size) hne).trans (h.block i hi hne)⟩

/-- The rows of an own array of pairs. -/
structure OwnQ (w : World) (base g n cap : Nat) (L : List Q) : Prop where
  len : L.length = n
  own : w.ownsRow base 54 7 (.slice (some ⟨g, 0, none⟩) n cap) n (flatQ L)
  six : ∀ i (h : i < L.length), ∃ (k : Int) (b : Bool) (m : Int) (s : ByteArray) (la : Option Addr) (ll lc : Nat) (ma : Option Addr) (ml mc : Nat), L[i].2.2 = #[.int .i64 k, .bool b, .int .i64 m, .string s, .slice la ll lc, .slice ma ml mc]

theorem qrow_size {w : World} {base g n cap : Nat} {L : List Q} (h : OwnQ w base g n cap L) : ∀ d ∈ L.map qrow, d.size = 7 := fun d hd => by
  obtain ⟨q, hq, rfl⟩ := List.mem_map.1 hd
  obtain ⟨i, hi, rfl⟩ := List.getElem_of_mem hq
  obtain ⟨k, b, m, s, la, ll, lc, ma, ml, mc, e⟩ := h.six i hi
  simp [qrow, e]

/-- Row i, written out. -/
theorem OwnQ.row {w : World} {base g n cap : Nat} {L : List Q} (h : OwnQ w base g n cap L) (i : Nat) (hi : i < L.length) :
    ∃ (k : Int) (b : Bool) (m : Int) (s : ByteArray) (la : Option Addr) (ll lc : Nat) (ma : Option Addr) (ml mc : Nat), L[i].2.2 = #[.int .i64 k, .bool b, .int .i64 m, .string s, .slice la ll lc, .slice ma ml mc] ∧
      w.cell? ⟨g, i * 7, none⟩ = some (.string L[i].1) ∧ w.cell? ⟨g, i * 7 + 1, none⟩ = some (.int .i64 k) ∧ w.cell? ⟨g, i * 7 + 2, none⟩ = some (.bool b) ∧ w.cell? ⟨g, i * 7 + 3, none⟩ = some (.int .i64 m) ∧
      w.cell? ⟨g, i * 7 + 4, none⟩ = some (.string s) ∧ w.cell? ⟨g, i * 7 + 5, none⟩ = some (.slice la ll lc) ∧ w.cell? ⟨g, i * 7 + 6, none⟩ = some (.slice ma ml mc) := by
  obtain ⟨k, b, m, s, la, ll, lc, ma, ml, mc, e⟩ := h.six i hi
  have hi2 : i < (L.map qrow).length := by simpa using hi
  have er : (L.map qrow)[i] = #[.string L[i].1, .int .i64 k, .bool b, .int .i64 m, .string s, .slice la ll lc, .slice ma ml mc] := by simp [qrow, e]
  have hc : ∀ j (hj : j < 7), w.cell? ⟨g, i * 7 + j, none⟩ = (#[.string L[i].1, .int .i64 k, .bool b, .int .i64 m, .string s, .slice la ll lc, .slice ma ml mc] : Array Value)[j]? := fun j hj => by
    have hn := h.len
    rw [h.own.cellAt (i * 7 + j) (by omega)]
    have := flat_get (L.map qrow) (qrow_size h) i hi2 j (by rw [er]; exact hj)
    rw [flatQ, this, Array.getElem?_eq_getElem (show j < 7 from hj)]
    exact congrArg some (get_congr er j _ _)
  exact ⟨k, b, m, s, la, ll, lc, ma, ml, mc, e, hc 0 (by omega), hc 1 (by omega), hc 2 (by omega), hc 3 (by omega), hc 4 (by omega), hc 5 (by omega), hc 6 (by omega)⟩

theorem OwnQ.kept {w w' : World} {base g n cap : Nat} {L : List Q} (h : OwnQ w base g n cap L) (hb : Below w.heap.size w w') : OwnQ w' base g n cap L :=
  ⟨h.len, h.own.kept (grown_of_below hb none) (.inr (by simp [Value.ownBlock])), h.six⟩

/-- A list, overwritten from o on. -/
def setL : List Value → Nat → List Value → List Value
  | xs, _, [] => xs
  | xs, o, v :: r => setL (xs.set o v) (o + 1) r
theorem own_setRow {base g n cap : Nat} : ∀ (vs : List Value) (w : World) (o : Nat) (xs : List Value), w.ownsRow base 54 7 (.slice (some ⟨g, 0, none⟩) n cap) n xs →
    (setRow w g o vs).ownsRow base 54 7 (.slice (some ⟨g, 0, none⟩) n cap) n (setL xs o vs) ∧ w.grownBy (setRow w g o vs) (some g)
  | [], w, o, xs, h => ⟨h, World.grownBy.refl _ _⟩
  | v :: r, w, o, xs, h => by
    obtain ⟨h1, h2⟩ := h.stored o v
    obtain ⟨h3, h4⟩ := own_setRow r (w.setCell ⟨g, o, none⟩ v) (o + 1) (xs.set o v) h1
    exact ⟨h3, grown_trans h2 h4⟩
theorem setL_mid : ∀ (d d0 pre rest : List Value), d0.length = d.length → setL (pre ++ d0 ++ rest) pre.length d = pre ++ d ++ rest
  | [], [], pre, rest, _ => rfl
  | v :: r, x :: q, pre, rest, h => by
    have e : (pre ++ (x :: q) ++ rest).set pre.length v = (pre ++ [v]) ++ q ++ rest := by simp
    rw [setL, e]
    have := setL_mid r q (pre ++ [v]) rest (by simpa using h)
    rw [List.length_append] at this
    simp only [List.length_singleton] at this
    rw [this]
    simp
theorem setL_flat (D : List (Array Value)) (hD : ∀ d ∈ D, d.size = 7) (i : Nat) (hi : i < D.length) (d : Array Value) (hd : d.size = 7) : setL (D.flatMap Array.toList) (i * 7) d.toList = (D.set i d).flatMap Array.toList := by
  have e1 : D = D.take i ++ D[i] :: D.drop (i + 1) := by rw [← List.drop_eq_getElem_cons hi, List.take_append_drop]
  have e2 : D.set i d = D.take i ++ d :: D.drop (i + 1) := by rw [List.set_eq_take_append_cons_drop, if_pos hi]
  have hl : ((D.take i).flatMap Array.toList).length = i * 7 := by
    rw [flat_len _ fun x hx => hD x (List.mem_of_mem_take hx), List.length_take, Nat.min_eq_left (by omega)]
  have hx : D[i].toList.length = d.toList.length := by simp [hD D[i] (List.getElem_mem hi), hd]
  rw [e2]
  conv => lhs; arg 1; rw [e1]
  simp only [List.flatMap_append, List.flatMap_cons]
  rw [← List.append_assoc, ← hl, setL_mid d.toList D[i].toList _ _ hx, List.append_assoc]

theorem OwnQ.swap {w : World} {base g n cap : Nat} {C : List Q} (h : OwnQ w base g n cap C) (p : Nat) (hp : p + 1 < C.length) :
    OwnQ (setRow (setRow w g ((p + 1) * 7) (qrow C[p]).toList) g (p * 7) (qrow C[p + 1]).toList).drew base g n cap ((C.set (p + 1) C[p]).set p C[p + 1]) ∧
      w.grownBy (setRow (setRow w g ((p + 1) * 7) (qrow C[p]).toList) g (p * 7) (qrow C[p + 1]).toList).drew (some g) := by
  have hs := qrow_size h
  have s0 : (qrow C[p]).size = 7 := hs _ (List.mem_map.2 ⟨_, List.getElem_mem _, rfl⟩)
  have s1 : (qrow C[p + 1]).size = 7 := hs _ (List.mem_map.2 ⟨_, List.getElem_mem _, rfl⟩)
  obtain ⟨o1, g1⟩ := own_setRow (qrow C[p]).toList w ((p + 1) * 7) _ h.own
  obtain ⟨o2, g2⟩ := own_setRow (qrow C[p + 1]).toList _ (p * 7) _ o1
  have e1 : setL (flatQ C) ((p + 1) * 7) (qrow C[p]).toList = flatQ (C.set (p + 1) C[p]) := by
    unfold flatQ
    rw [setL_flat _ hs (p + 1) (by simpa using hp) _ s0, List.map_set]
  have hs2 : ∀ d ∈ (C.set (p + 1) C[p]).map qrow, d.size = 7 := fun d hd => by
    rw [List.map_set] at hd
    rcases List.mem_or_eq_of_mem_set hd with h1 | rfl
    · exact hs d h1
    · exact s0
  have e2 : setL (flatQ (C.set (p + 1) C[p])) (p * 7) (qrow C[p + 1]).toList = flatQ ((C.set (p + 1) C[p]).set p C[p + 1]) := by
    unfold flatQ
    rw [setL_flat _ hs2 p (by simp; omega) _ s1, ← List.map_set]
  rw [e1, e2] at o2
  refine ⟨⟨by simp [h.len], o2.drew, fun i hi => ?_⟩, ?_⟩
  · have hm : ((C.set (p + 1) C[p]).set p C[p + 1])[i] ∈ C := by
      rcases List.mem_or_eq_of_mem_set (List.getElem_mem hi) with h1 | e
      · rcases List.mem_or_eq_of_mem_set h1 with h2 | e
        · exact h2
        · rw [e]; exact List.getElem_mem _
      · rw [e]; exact List.getElem_mem _
    obtain ⟨i', hi', e⟩ := List.getElem_of_mem hm
    rw [← e]
    exact h.six i' hi'
  · have g3 := grown_trans g1 g2
    exact ⟨g3.os, g3.tape, g3.output, g3.size, g3.block⟩

end Go.Proofs.YtbmlmcoepmbelaaDoor
