/-
  Bare texts: package scalar's letter, digit, bare, Bare, and the reference's Bare.
-/
import Derived.Test.YtlniokpekcoodaaGreatDoorValOverM
import Derived.Test.YtlniokpekcoodaaGreatDoorAwakeM
import Derived.Test.YtlniokpekcoodaaGreatDoorClone
import Derived.Test.YtlniokpekcoodaaGreatDoorVals
import Derived.Laws.IdiomStrings
set_option linter.unusedVariables false
set_option linter.unusedSimpArgs false
namespace Go.Proofs.YtlniokpekcoodaaGreatDoor
open Go.RowKit

def letterB (c : UInt8) : Bool := (decide (97 ≤ c.toNat) && decide (c.toNat ≤ 122)) || (decide (65 ≤ c.toNat) && decide (c.toNat ≤ 90))
def digitB (c : UInt8) : Bool := decide (48 ≤ c.toNat) && decide (c.toNat ≤ 57)
def markB (c : UInt8) : Bool := decide (c.toNat = 95) || decide (c.toNat = 45) || decide (c.toNat = 46) || decide (c.toNat = 47)
def bareB (c : UInt8) : Bool := letterB c || digitB c || markB c
/-- A text that may be written as it is. -/
def bareL : List UInt8 → Bool
  | [] => false
  | c :: l => letterB c && !(decide (c :: l = [110, 117, 108, 108]) || decide (c :: l = [116, 114, 117, 101]) || decide (c :: l = [102, 97, 108, 115, 101])) && (c :: l).all bareB

theorem str_is (s : ByteArray) (l : List UInt8) : (s.toList == l) = decide (s.data.toList = l) := by
  rw [Lib.toList_data]
  by_cases h : s.data.toList = l
  · rw [h]; simp
  · rw [decide_eq_false h]; exact beq_eq_false_iff_ne.2 h
theorem str_head (s : ByteArray) (h : 0 < s.size) : s.data.toList = s[0] :: s.data.toList.drop 1 := by
  have := drop_step s 0 h
  simpa using this
theorem all_bytes {s : ByteArray} {p : UInt8 → Bool} (h : ∀ i (hi : i < s.size), p s[i] = true) : s.data.toList.all p = true := by
  rw [List.all_eq_true]
  intro b hb
  obtain ⟨i, hi, e⟩ := List.getElem_of_mem hb
  have hi2 : i < s.size := by rw [Lib.size_eq]; exact hi
  have h2 : s[i] = s.data.toList[i] := by simp [ByteArray.getElem_eq_getElem_data]
  rw [← e, ← h2]
  exact h i hi2
theorem not_all_bytes {s : ByteArray} {p : UInt8 → Bool} (i : Nat) (hi : i < s.size) (h : p s[i] = false) : s.data.toList.all p = false := by
  cases hx : s.data.toList.all p with
  | false => rfl
  | true =>
    have hi2 : i < s.data.toList.length := by rw [← Lib.size_eq]; exact hi
    have h2 : s[i] = s.data.toList[i] := by simp [ByteArray.getElem_eq_getElem_data]
    rw [h2] at h
    rw [List.all_eq_true.1 hx _ (List.getElem_mem hi2)] at h
    cases h
/-- A word of something else. -/
def wordsB (l : List UInt8) : Bool := decide (l = [110, 117, 108, 108]) || decide (l = [116, 114, 117, 101]) || decide (l = [102, 97, 108, 115, 101])
theorem bareL_some (s : ByteArray) (h : 0 < s.size) : bareL s.data.toList = (letterB s[0] && !wordsB s.data.toList && s.data.toList.all bareB) := by
  have e := str_head s h
  conv => lhs; rw [e]
  rw [bareL, ← e]
  rfl

end Go.Proofs.YtlniokpekcoodaaGreatDoor

/-
  Slices of one's own, and boxes: laws of no type.
-/
set_option linter.unusedVariables false
set_option linter.unusedSimpArgs false
namespace Go.Proofs.YtlniokpekcoodaaGreatDoor
open Go.RowKit

/-- append to a slice of one's own, as one step of a region that draws its order. -/
theorem step_append_own {P : Program} {ops : Array Oper} {o : Oper} {a : Act} {w : World} {K : Act → World → Prop} {Q : Exit → Act → World → Prop} {E : Prop}
    (hg : o.guard = none) (s x : Operand) (t : TypeId) (hop : o.op = Op.call { callee := Callee.builtin Builtin.append, args := #[s, x], argTypes := #[t, t] })
    (base : Nat) (e : TypeId) (i : TypeInfo) (z : Value) (size bytes : Nat) (ht : P.underlying t = some (.slice e)) (hi : P.info? e = some i) (hz : i.zero = some z)
    (hsize : i.size = size) (hby : i.bytes = bytes) (hzs : z.cells.size = size) (hsz : 0 < size)
    (v : Value) (n : Nat) (xs : List Value) (hs : a.eval s = v) (hown : w.ownsRow base e size v n xs)
    (ad : Addr) (m c : Nat) (news : List Value) (hx : a.eval x = .slice (some ad) m c) (hl : news.length = m * size) (hnews : ∀ j u, news[j]? = some u → w.cell? (ad.add j) = some u) (h1 : ∀ u ∈ news, u.oneCell' = true)
    (h63 : n + m ≤ maxLen) (hbytes : (n + m) * bytes ≤ 140737488355328) (hbase : base ≤ w.heap.size)
    (hK : ∀ v' w', w'.ownsRow base e size v' (n + m) (xs ++ news) → w.grownBy w' v.ownBlock → (v'.ownBlock = v.ownBlock ∨ v'.ownBlock = some w.heap.size) → K (a.put o.dst v') w') :
    if Region.wanted o (yielded ops a.tmps) = true then Oper.wp P o a w K Q else E := by
  have hw : Region.wanted o (yielded ops a.tmps) = true := by simp [Region.wanted, hg]
  rw [if_pos hw]
  obtain ⟨v', w', hr, h2, h3, h4, h5⟩ := run_append_own_at (P := P) w base t o.type e i z size bytes ht hi hz hsize hby hzs hsz v n xs hown ad m c news hl hnews h1 h63 hbytes hbase
  unfold Oper.wp
  simp [execOp, hop, resolve, invoke, builtin, hs, hx, hr, Result.andThen]
  exact hK v' w' h2 h3 h5

/-- append to a slice of one's own, of one that may be nil. -/
theorem wpList_append_own_any {P : Program} (w : World) {ops : Array Oper} {rest : List Oper} {o : Oper} {a : Act} {Q : Exit → Act → World → Prop} (hgd : o.guard = none) (s x : Operand) (t : TypeId)
    (ho : o.op = .call { callee := .builtin .append, args := #[s, x], argTypes := #[t, t] })
    (base : Nat) (e : TypeId) (i : TypeInfo) (z : Value) (size bytes : Nat) (ht : P.underlying t = some (.slice e)) (hi : P.info? e = some i) (hz : i.zero = some z)
    (hsize : i.size = size) (hby : i.bytes = bytes) (hzs : z.cells.size = size) (hsz : 0 < size)
    (v : Value) (n : Nat) (xs : List Value) (hs : a.eval s = v) (hown : w.ownsRow base e size v n xs)
    (ao : Option Addr) (m c : Nat) (news : List Value) (hx : a.eval x = .slice ao m c) (hl : news.length = m * size) (hnone : ao = none → m = 0 ∧ c = 0)
    (hnews : ∀ ad, ao = some ad → ∀ j u, news[j]? = some u → w.cell? (ad.add j) = some u) (h1 : ∀ u ∈ news, u.oneCell' = true)
    (h63 : n + m ≤ maxLen) (hbytes : (n + m) * bytes ≤ 140737488355328) (hbase : base ≤ w.heap.size)
    (h : ∀ v' w', w'.ownsRow base e size v' (n + m) (xs ++ news) → w.grownBy w' v.ownBlock → (v'.ownBlock = v.ownBlock ∨ v'.ownBlock = some w.heap.size) → wpList P ops Q rest (a.put o.dst v') w') :
    wpList P ops Q (o :: rest) a w := by
  cases ao with
  | some ad => exact wpList_append_own_at w hgd s x t ho base e i z size bytes ht hi hz hsize hby hzs hsz v n xs hs hown ad m c news hx hl (hnews ad rfl) h1 h63 hbytes hbase (fun v' w' a b _ d => h v' w' a b d)
  | none =>
    obtain ⟨rfl, rfl⟩ := hnone rfl
    have hnw : news = [] := List.eq_nil_of_length_eq_zero (by simpa using hl)
    subst hnw
    refine wpList_plain hgd fun K hK' => ?_
    have hrun := run_append_owned_none (P := P) w base t o.type e i size ht hi _ n xs hown
    unfold Oper.wp
    simp [execOp, ho, resolve, invoke, builtin, hs, hx, hrun, Result.andThen]
    exact hK' _ _ (by simpa using h v w (by simpa using hown) (World.grownBy.refl _ _) (.inl rfl))

theorem row_form {w : World} {base : Nat} {e : TypeId} {size : Nat} {v : Value} {n : Nat} {xs : List Value} (h : w.ownsRow base e size v n xs) : ∃ a c, v = .slice a n c := by
  rcases h.2 with ⟨e, hn⟩ | ⟨g, cap, cur, e, _⟩
  · exact ⟨none, 0, by rw [e, hn]⟩
  · exact ⟨_, _, e⟩

theorem ret_cells0 {P : Program} {fn : Func} {R : Ending → World → Prop} {a : Act} {w : World} {p : Tmp} {ty : TypeId} {d : TypeDesc} (g : Nat) (vs : List Value) (h : fn.results = #[.cell p ty]) (hdef : a.defers = []) (hp : a.tmps.getD p undef = .pointer (some ⟨g, 0, none⟩))
    (hd : (match d with | .struct _ | .array _ _ => true | _ => false) = true) (hu : P.underlying ty = some d) (hi : (P.info? ty).map (·.size) = some vs.length) (hW : ∀ i (q : i < vs.length), w.cell? ⟨g, i, none⟩ = some vs[i])
    (hR : R (.returned (.agg vs.toArray)) w) : bodyPost P fn R .ret a w :=
  bodyPost_ret (results_cells h _ _ g vs.toArray d hd hu hp (fun i hi' => by simpa using hW i (by simpa using hi')) (by simpa using hi)) hdef hR

end Go.Proofs.YtlniokpekcoodaaGreatDoor

/-
  Package scalar's Quote.
-/
set_option linter.unusedVariables false
set_option linter.unusedSimpArgs false
namespace Go.Proofs.YtlniokpekcoodaaGreatDoor
open Go.RowKit

/-- Bytes in a slice of one's own. -/
def OwnB (base : Nat) (w : World) (v : Value) (l : List UInt8) : Prop := w.ownsRow base 5 1 v l.length (Lib.byteCells l)

theorem Tryz.infoB : (Tryz.prog.info? 5).map (fun i => (i.zero, i.size, i.bytes)) = some (some (.int .u8 0), 1, 1) := by kernel_rfl
theorem info_byte : ∃ i0, Tryz.prog.info? 5 = some i0 ∧ i0.zero = some (.int .u8 0) ∧ i0.size = 1 ∧ i0.bytes = 1 := by
  have h := Tryz.infoB
  cases e : Tryz.prog.info? 5 with
  | none => rw [e] at h; cases h
  | some i =>
    rw [e] at h
    simp only [Option.map_some, Option.some.injEq, Prod.mk.injEq] at h
    exact ⟨i, rfl, h.1, h.2.1, h.2.2⟩
theorem byte_lit (w : World) (x : Value) (t : TypeId) : ∀ ad : Addr, some (⟨w.heap.size, 0, none⟩ : Addr) = some ad → ∀ j u, [x][j]? = some u → (w.alloc (.cells #[x] t)).cell? (ad.add j) = some u := fun ad h j u hu => by
  injection h with h
  subst h
  rw [Addr.add_lit, Nat.zero_add, World.cell?_alloc_new, ← Array.getElem?_toList]
  exact hu

/-- What a slice of bytes of one's own has become. -/
def GrewB (base : Nat) (w : World) (v : Value) (l : List UInt8) (w' : World) (v' : Value) : Prop :=
  OwnB base w' v' l ∧ w.grownBy w' v.ownBlock ∧ (v'.ownBlock = v.ownBlock ∨ ∃ g, w.heap.size ≤ g ∧ v'.ownBlock = some g)
def GrowB (base : Nat) (w : World) (v : Value) (l : List UInt8) (e : Ending) (w' : World) : Prop := ∃ v', e = .returned v' ∧ GrewB base w v l w' v'

theorem GrewB.alloc {base : Nat} {w w' : World} {v v' : Value} {l : List UInt8} {o : Obj} (h : GrewB base (w.alloc o) v l w' v') : GrewB base w v l w' v' :=
  ⟨h.1, (World.grownBy_alloc w o _).trans h.2.1, h.2.2.imp id fun ⟨g, hg, e⟩ => ⟨g, by simp at hg; omega, e⟩⟩
theorem GrewB.trans {base : Nat} {w w1 w2 : World} {v v1 v2 : Value} {l1 l2 : List UInt8} (h : GrewB base w v l1 w1 v1) (k : GrewB base w1 v1 l2 w2 v2) : GrewB base w v l2 w2 v2 := by
  refine ⟨k.1, ?_, ?_⟩
  · rcases h.2.2 with e | ⟨g, hg, e⟩
    · exact h.2.1.trans (e ▸ k.2.1)
    · refine ⟨k.2.1.os.trans h.2.1.os, k.2.1.tape.trans h.2.1.tape, k.2.1.output.trans h.2.1.output, Nat.le_trans h.2.1.size k.2.1.size, fun i hi hne => ?_⟩
      rw [k.2.1.block i (Nat.lt_of_lt_of_le hi h.2.1.size) (fun e2 => by rw [e] at e2; injection e2 with e2; omega), h.2.1.block i hi hne]
  · rcases k.2.2 with e | ⟨g, hg, e⟩
    · rcases h.2.2 with e2 | ⟨g2, hg2, e2⟩
      · exact .inl (e.trans e2)
      · exact .inr ⟨g2, hg2, e.trans e2⟩
    · exact .inr ⟨g, Nat.le_trans h.2.1.size hg, e⟩
theorem grew_of {base : Nat} {w w' : World} {v v' : Value} {l : List UInt8} {b : UInt8} (own : w'.ownsRow base 5 1 v' (l.length + 1) (Lib.byteCells l ++ [.int .u8 b.toNat])) (hg : w.grownBy w' v.ownBlock) (hob : v'.ownBlock = v.ownBlock ∨ v'.ownBlock = some w.heap.size) : GrewB base w v (l ++ [b]) w' v' := by
  refine ⟨?_, hg, hob.imp id fun e => ⟨_, Nat.le_refl _, e⟩⟩
  show World.ownsRow _ _ _ _ _ _ _
  rw [Lib.byteCells_append, List.length_append]
  exact own

theorem ownB_form {base : Nat} {w : World} {v : Value} {l : List UInt8} (h : OwnB base w v l) (hl : 0 < l.length) : ∃ g c, v = .slice (some ⟨g, 0, none⟩) l.length c ∧ ∀ j (hj : j < l.length), w.cell? ((⟨g, 0, none⟩ : Addr).add j) = some (.int .u8 (l[j].toNat : Int)) := by
  rcases h.2 with ⟨e, hn⟩ | ⟨g, cap, cur, e, hg, hx⟩
  · rw [hn] at hl; exact absurd hl (Nat.lt_irrefl 0)
  · refine ⟨g, cap, e, fun j hj => ?_⟩
    have := World.ownsRow.cells h (g := g) (by rw [e]; rfl) j (.int .u8 (l[j].toNat : Int)) (by simp [Lib.byteCells, List.getElem?_eq_getElem hj])
    exact this

/-- What Quote has of the first k bytes. -/
def qL (s : ByteArray) (k : Nat) : List UInt8 := 34 :: (s.data.toList.take k).flatMap escB
theorem qL_len (s : ByteArray) (k : Nat) (hk : k ≤ s.size) : (qL s k).length ≤ 1 + 2 * k := by
  rw [qL]
  have h1 := esc_len (s.data.toList.take k)
  have h2 := List.length_take_le k s.data.toList
  simp only [List.length_cons]
  omega
theorem qL_step (s : ByteArray) (k : Nat) (h : k < s.size) : qL s (k + 1) = qL s k ++ escB s[k] := by
  rw [qL, qL, take_one s k h, List.flatMap_append]
  simp
theorem qL_all (s : ByteArray) : qL s s.size ++ [34] = quoteL s.data.toList := by
  rw [qL, quoteL, List.take_of_length_le (by rw [← Lib.size_eq]; exact Nat.le_refl _)]
  rfl

end Go.Proofs.YtlniokpekcoodaaGreatDoor
