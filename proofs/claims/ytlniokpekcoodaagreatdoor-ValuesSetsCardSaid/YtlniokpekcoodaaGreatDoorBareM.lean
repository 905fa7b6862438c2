/-
  Bare texts: package scalar's letter, digit, bare, Bare, and the reference's Bare.
-/
import Derived.Test.YtlniokpekcoodaaGreatDoorOpenM
import Derived.Test.YtlniokpekcoodaaGreatDoorClone
import Derived.Test.YtlniokpekcoodaaGreatDoorVals
import Derived.Laws.IdiomStrings
import Derived.Shelf.Bytes.SlSmallAll
set_option linter.unusedVariables false
set_option linter.unusedSimpArgs false
namespace Go.Proofs.YtlniokpekcoodaaGreatDoor
open Go.RowKit

def letterB (c : UInt8) : Bool := (decide (97 ≤ c.toNat) && decide (c.toNat ≤ 122)) || (decide (65 ≤ c.toNat) && decide (c.toNat ≤ 90))
def digitB (c : UInt8) : Bool := decide (48 ≤ c.toNat) && decide (c.toNat ≤ 57)
def markB (c : UInt8) : Bool := decide (c.toNat = 95) || decide (c.toNat = 45) || decide (c.toNat = 46) || decide (c.toNat = 47)
def bareB (c : UInt8) : Bool := letterB c || digitB c || markB c
/-- A text that may be written as it is. -/
def bareL : List UInt8 → Bool
  | [] => false
  | c :: l => letterB c && !(decide (c :: l = [110, 117, 108, 108]) || decide (c :: l = [116, 114, 117, 101]) || decide (c :: l = [102, 97, 108, 115, 101])) && (c :: l).all bareB

theorem str_is (s : ByteArray) (l : List UInt8) : (s.toList == l) = decide (s.data.toList = l) := by
  rw [Lib.toList_data]
  by_cases h : s.data.toList = l
  · rw [h]; simp
  · rw [decide_eq_false h]; exact beq_eq_false_iff_ne.2 h
theorem str_head (s : ByteArray) (h : 0 < s.size) : s.data.toList = s[0] :: s.data.toList.drop 1 := by
  have := drop_step s 0 h
  simpa using this
theorem all_bytes {s : ByteArray} {p : UInt8 → Bool} (h : ∀ i (hi : i < s.size), p s[i] = true) : s.data.toList.all p = true := by
  rw [List.all_eq_true]
  intro b hb
  obtain ⟨i, hi, e⟩ := List.getElem_of_mem hb
  have hi2 : i < s.size := by rw [Lib.size_eq]; exact hi
  have h2 : s[i] = s.data.toList[i] := by simp [ByteArray.getElem_eq_getElem_data]
  rw [← e, ← h2]
  exact h i hi2
theorem not_all_bytes {s : ByteArray} {p : UInt8 → Bool} (i : Nat) (hi : i < s.size) (h : p s[i] = false) : s.data.toList.all p = false := by
  cases hx : s.data.toList.all p with
  | false => rfl
  | true =>
    have hi2 : i < s.data.toList.length := by rw [← Lib.size_eq]; exact hi
    have h2 : s[i] = s.data.toList[i] := by simp [ByteArray.getElem_eq_getElem_data]
    rw [h2] at h
    rw [List.all_eq_true.1 hx _ (List.getElem_mem hi2)] at h
    cases h
/-- A word of something else. -/
def wordsB (l : List UInt8) : Bool := decide (l = [110, 117, 108, 108]) || decide (l = [116, 114, 117, 101]) || decide (l = [102, 97, 108, 115, 101])
end Go.Proofs.YtlniokpekcoodaaGreatDoor

/-
  Slices of one's own, and boxes: laws of no type.
-/
set_option linter.unusedVariables false
set_option linter.unusedSimpArgs false
namespace Go.Proofs.YtlniokpekcoodaaGreatDoor
open Go.RowKit

theorem one_boxV {w w1 : World} {cs : Array Value} {ty : TypeId} (h : Below (w.alloc (.cells cs ty)).heap.size (w.alloc (.cells cs ty)) w1) :
    (∀ j, w1.cell? ⟨w.heap.size, j, none⟩ = cs[j]?) ∧ (∀ j, w1.frozen? ⟨w.heap.size, j, none⟩ = false) :=
  ⟨fun j => by rw [h.cell (p := ⟨w.heap.size, j, none⟩) (by simp), World.cell?_alloc_new], fun j => by rw [h.frozen (p := ⟨w.heap.size, j, none⟩) (by simp), World.frozen?_alloc_new]⟩

/-- append to a slice of one's own, as one step of a region that draws its order. -/
theorem step_append_own {P : Program} {ops : Array Oper} {o : Oper} {a : Act} {w : World} {K : Act → World → Prop} {Q : Exit → Act → World → Prop} {E : Prop}
    (hg : o.guard = none) (s x : Operand) (t : TypeId) (hop : o.op = Op.call { callee := Callee.builtin Builtin.append, args := #[s, x], argTypes := #[t, t] })
    (base : Nat) (e : TypeId) (i : TypeInfo) (z : Value) (size bytes : Nat) (ht : P.underlying t = some (.slice e)) (hi : P.info? e = some i) (hz : i.zero = some z)
    (hsize : i.size = size) (hby : i.bytes = bytes) (hzs : z.cells.size = size) (hsz : 0 < size)
    (v : Value) (n : Nat) (xs : List Value) (hs : a.eval s = v) (hown : w.ownsRow base e size v n xs)
    (ad : Addr) (m c : Nat) (news : List Value) (hx : a.eval x = .slice (some ad) m c) (hl : news.length = m * size) (hnews : ∀ j u, news[j]? = some u → w.cell? (ad.add j) = some u) (h1 : ∀ u ∈ news, u.oneCell' = true)
    (h63 : n + m ≤ maxLen) (hbytes : (n + m) * bytes ≤ 140737488355328) (hbase : base ≤ w.heap.size)
    (hK : ∀ v' w', w'.ownsRow base e size v' (n + m) (xs ++ news) → w.grownBy w' v.ownBlock → (v'.ownBlock = v.ownBlock ∨ v'.ownBlock = some w.heap.size) → K (a.put o.dst v') w') :
    if Region.wanted o (yielded ops a.tmps) = true then Oper.wp P o a w K Q else E := by
  have hw : Region.wanted o (yielded ops a.tmps) = true := by simp [Region.wanted, hg]
  rw [if_pos hw]
  obtain ⟨v', w', hr, h2, h3, h4, h5⟩ := run_append_own_at (P := P) w base t o.type e i z size bytes ht hi hz hsize hby hzs hsz v n xs hown ad m c news hl hnews h1 h63 hbytes hbase
  unfold Oper.wp
  simp [execOp, hop, resolve, invoke, builtin, hs, hx, hr, Result.andThen]
  exact hK v' w' h2 h3 h5

/-- append to a slice of one's own, of one that may be nil. -/
theorem wpList_append_own_any {P : Program} (w : World) {ops : Array Oper} {rest : List Oper} {o : Oper} {a : Act} {Q : Exit → Act → World → Prop} (hgd : o.guard = none) (s x : Operand) (t : TypeId)
    (ho : o.op = .call { callee := .builtin .append, args := #[s, x], argTypes := #[t, t] })
    (base : Nat) (e : TypeId) (i : TypeInfo) (z : Value) (size bytes : Nat) (ht : P.underlying t = some (.slice e)) (hi : P.info? e = some i) (hz : i.zero = some z)
    (hsize : i.size = size) (hby : i.bytes = bytes) (hzs : z.cells.size = size) (hsz : 0 < size)
    (v : Value) (n : Nat) (xs : List Value) (hs : a.eval s = v) (hown : w.ownsRow base e size v n xs)
    (ao : Option Addr) (m c : Nat) (news : List Value) (hx : a.eval x = .slice ao m c) (hl : news.length = m * size) (hnone : ao = none → m = 0 ∧ c = 0)
    (hnews : ∀ ad, ao = some ad → ∀ j u, news[j]? = some u → w.cell? (ad.add j) = some u) (h1 : ∀ u ∈ news, u.oneCell' = true)
    (h63 : n + m ≤ maxLen) (hbytes : (n + m) * bytes ≤ 140737488355328) (hbase : base ≤ w.heap.size)
    (h : ∀ v' w', w'.ownsRow base e size v' (n + m) (xs ++ news) → w.grownBy w' v.ownBlock → (v'.ownBlock = v.ownBlock ∨ v'.ownBlock = some w.heap.size) → wpList P ops Q rest (a.put o.dst v') w') :
    wpList P ops Q (o :: rest) a w := by
  cases ao with
  | some ad => exact wpList_append_own_at w hgd s x t ho base e i z size bytes ht hi hz hsize hby hzs hsz v n xs hs hown ad m c news hx hl (hnews ad rfl) h1 h63 hbytes hbase (fun v' w' a b _ d => h v' w' a b d)
  | none =>
    obtain ⟨rfl, rfl⟩ := hnone rfl
    have hnw : news = [] := List.eq_nil_of_length_eq_zero (by simpa using hl)
    subst hnw
    refine wpList_plain hgd fun K hK' => ?_
    have hrun := run_append_owned_none (P := P) w base t o.type e i size ht hi _ n xs hown
    unfold Oper.wp
    simp [execOp, ho, resolve, invoke, builtin, hs, hx, hrun, Result.andThen]
    exact hK' _ _ (by simpa using h v w (by simpa using hown) (World.grownBy.refl _ _) (.inl rfl))

theorem row_form {w : World} {base : Nat} {e : TypeId} {size : Nat} {v : Value} {n : Nat} {xs : List Value} (h : w.ownsRow base e size v n xs) : ∃ a c, v = .slice a n c := by
  rcases h.2 with ⟨e, hn⟩ | ⟨g, cap, cur, e, _⟩
  · exact ⟨none, 0, by rw [e, hn]⟩
  · exact ⟨_, _, e⟩

theorem ret_cells0 {P : Program} {fn : Func} {R : Ending → World → Prop} {a : Act} {w : World} {p : Tmp} {ty : TypeId} {d : TypeDesc} (g : Nat) (vs : List Value) (h : fn.results = #[.cell p ty]) (hdef : a.defers = []) (hp : a.tmps.getD p undef = .pointer (some ⟨g, 0, none⟩))
    (hd : (match d with | .struct _ | .array _ _ => true | _ => false) = true) (hu : P.underlying ty = some d) (hi : (P.info? ty).map (·.size) = some vs.length) (hW : ∀ i (q : i < vs.length), w.cell? ⟨g, i, none⟩ = some vs[i])
    (hR : R (.returned (.agg vs.toArray)) w) : bodyPost P fn R .ret a w :=
  bodyPost_ret (results_cells h _ _ g vs.toArray d hd hu hp (fun i hi' => by simpa using hW i (by simpa using hi')) (by simpa using hi)) hdef hR

end Go.Proofs.YtlniokpekcoodaaGreatDoor

/-
  Package scalar's Quote.
-/
set_option linter.unusedVariables false
set_option linter.unusedSimpArgs false
namespace Go.Proofs.YtlniokpekcoodaaGreatDoor
open Go.RowKit

/-- Bytes in a slice of one's own. -/
def OwnB (base : Nat) (w : World) (v : Value) (l : List UInt8) : Prop := w.ownsRow base 5 1 v l.length (Lib.byteCells l)

theorem Tryz.infoB : (Tryz.prog.info? 5).map (fun i => (i.zero, i.size, i.bytes)) = some (some (.int .u8 0), 1, 1) := by kernel_rfl
theorem info_byte : ∃ i0, Tryz.prog.info? 5 = some i0 ∧ i0.zero = some (.int .u8 0) ∧ i0.size = 1 ∧ i0.bytes = 1 := by
  have h := Tryz.infoB
  cases e : Tryz.prog.info? 5 with
  | none => rw [e] at h; cases h
  | some i =>
    rw [e] at h
    simp only [Option.map_some, Option.some.injEq, Prod.mk.injEq] at h
    exact ⟨i, rfl, h.1, h.2.1, h.2.2⟩
theorem byte_lit (w : World) (x : Value) (t : TypeId) : ∀ ad : Addr, some (⟨w.heap.size, 0, none⟩ : Addr) = some ad → ∀ j u, [x][j]? = some u → (w.alloc (.cells #[x] t)).cell? (ad.add j) = some u := fun ad h j u hu => by
  injection h with h
  subst h
  rw [Addr.add_lit, Nat.zero_add, World.cell?_alloc_new, ← Array.getElem?_toList]
  exact hu

/-- What a slice of bytes of one's own has become. -/
def GrewB (base : Nat) (w : World) (v : Value) (l : List UInt8) (w' : World) (v' : Value) : Prop :=
  OwnB base w' v' l ∧ w.grownBy w' v.ownBlock ∧ (v'.ownBlock = v.ownBlock ∨ ∃ g, w.heap.size ≤ g ∧ v'.ownBlock = some g)
def GrowB (base : Nat) (w : World) (v : Value) (l : List UInt8) (e : Ending) (w' : World) : Prop := ∃ v', e = .returned v' ∧ GrewB base w v l w' v'

theorem GrewB.alloc {base : Nat} {w w' : World} {v v' : Value} {l : List UInt8} {o : Obj} (h : GrewB base (w.alloc o) v l w' v') : GrewB base w v l w' v' :=
  ⟨h.1, (World.grownBy_alloc w o _).trans h.2.1, h.2.2.imp id fun ⟨g, hg, e⟩ => ⟨g, by simp at hg; omega, e⟩⟩
theorem GrewB.trans {base : Nat} {w w1 w2 : World} {v v1 v2 : Value} {l1 l2 : List UInt8} (h : GrewB base w v l1 w1 v1) (k : GrewB base w1 v1 l2 w2 v2) : GrewB base w v l2 w2 v2 := by
  refine ⟨k.1, ?_, ?_⟩
  · rcases h.2.2 with e | ⟨g, hg, e⟩
    · exact h.2.1.trans (e ▸ k.2.1)
    · refine ⟨k.2.1.os.trans h.2.1.os, k.2.1.tape.trans h.2.1.tape, k.2.1.output.trans h.2.1.output, Nat.le_trans h.2.1.size k.2.1.size, fun i hi hne => ?_⟩
      rw [k.2.1.block i (Nat.lt_of_lt_of_le hi h.2.1.size) (fun e2 => by rw [e] at e2; injection e2 with e2; omega), h.2.1.block i hi hne]
  · rcases k.2.2 with e | ⟨g, hg, e⟩
    · rcases h.2.2 with e2 | ⟨g2, hg2, e2⟩
      · exact .inl (e.trans e2)
      · exact .inr ⟨g2, hg2, e.trans e2⟩
    · exact .inr ⟨g, Nat.le_trans h.2.1.size hg, e⟩
theorem grew_of {base : Nat} {w w' : World} {v v' : Value} {l : List UInt8} {b : UInt8} (own : w'.ownsRow base 5 1 v' (l.length + 1) (Lib.byteCells l ++ [.int .u8 b.toNat])) (hg : w.grownBy w' v.ownBlock) (hob : v'.ownBlock = v.ownBlock ∨ v'.ownBlock = some w.heap.size) : GrewB base w v (l ++ [b]) w' v' := by
  refine ⟨?_, hg, hob.imp id fun e => ⟨_, Nat.le_refl _, e⟩⟩
  show World.ownsRow _ _ _ _ _ _ _
  rw [Lib.byteCells_append, List.length_append]
  exact own

theorem ownB_form {base : Nat} {w : World} {v : Value} {l : List UInt8} (h : OwnB base w v l) (hl : 0 < l.length) : ∃ g c, v = .slice (some ⟨g, 0, none⟩) l.length c ∧ ∀ j (hj : j < l.length), w.cell? ((⟨g, 0, none⟩ : Addr).add j) = some (.int .u8 (l[j].toNat : Int)) := by
  rcases h.2 with ⟨e, hn⟩ | ⟨g, cap, cur, e, hg, hx⟩
  · rw [hn] at hl; exact absurd hl (Nat.lt_irrefl 0)
  · refine ⟨g, cap, e, fun j hj => ?_⟩
    have := World.ownsRow.cells h (g := g) (by rw [e]; rfl) j (.int .u8 (l[j].toNat : Int)) (by simp [Lib.byteCells, List.getElem?_eq_getElem hj])
    exact this

/-- What Quote has of the first k bytes. -/
def qL (s : ByteArray) (k : Nat) : List UInt8 := 34 :: (s.data.toList.take k).flatMap escB
end Go.Proofs.YtlniokpekcoodaaGreatDoor

/-
  Package scalar's meant and double: a text in double quotes, read.
-/
set_option linter.unusedVariables false
set_option linter.unusedSimpArgs false
namespace Go.Proofs.YtlniokpekcoodaaGreatDoor
open Go.RowKit

/-- The byte that is told behind a backslash. -/
def meantB (b : UInt8) : Option UInt8 := if b.toNat = 110 then some 10 else if b.toNat = 116 then some 9 else if b.toNat = 34 ∨ b.toNat = 92 then some b else none
/-- A text in double quotes, behind the first one: what it says, and what stands behind it. -/
def dblL : List UInt8 → List UInt8 → Option (List UInt8 × List UInt8)
  | _, [] => none
  | acc, c :: r =>
    if c.toNat = 34 then some (acc, r)
    else if c.toNat = 10 ∨ c.toNat = 9 then none
    else if c.toNat = 92 then
      match r with
      | [] => none
      | d :: r2 => match meantB d with
        | none => none
        | some b => dblL (acc ++ [b]) r2
    else dblL (acc ++ [c]) r

theorem dbl_cons (acc : List UInt8) (c : UInt8) (r : List UInt8) : dblL acc (c :: r) = (if c.toNat = 34 then some (acc, r)
    else if c.toNat = 10 ∨ c.toNat = 9 then none
    else if c.toNat = 92 then
      match r with
      | [] => none
      | d :: r2 => match meantB d with
        | none => none
        | some b => dblL (acc ++ [b]) r2
    else dblL (acc ++ [c]) r) := by rw [dblL.eq_def]

theorem byte_meant (c : Nat) : (((c : Int) == 110) = true ∧ c = 110) ∨ (((c : Int) == 110) = false ∧ ((c : Int) == 116) = true ∧ c = 116) ∨ (((c : Int) == 110) = false ∧ ((c : Int) == 116) = false ∧ ((c : Int) == 34) = true ∧ c = 34) ∨ (((c : Int) == 110) = false ∧ ((c : Int) == 116) = false ∧ ((c : Int) == 34) = false ∧ ((c : Int) == 92) = true ∧ c = 92) ∨ (((c : Int) == 110) = false ∧ ((c : Int) == 116) = false ∧ ((c : Int) == 34) = false ∧ ((c : Int) == 92) = false ∧ c ≠ 110 ∧ c ≠ 116 ∧ c ≠ 34 ∧ c ≠ 92) := by
  simp only [beq_iff_eq, beq_eq_false_iff_ne, ne_eq]
  omega

def MeantIn (o : Option UInt8) (w : World) (e : Ending) (w' : World) : Prop := w' = w ∧ match o with
  | none => e = .returned (.tuple #[.int .u8 0, .bool false])
  | some b => e = .returned (.tuple #[.int .u8 b.toNat, .bool true])

theorem cmeant_empty (w : World) : Calls Tryz.prog 93 #[.string ⟨#[]⟩] w (MeantIn none w) := by
  go_enter Tryz.func93, Tryz.ntmps93
  go_wp2_with fail
  go_ret2
  exact ⟨rfl, rfl⟩
theorem cmeant_any (s : ByteArray) (h : 0 < s.size) (w : World) : Calls Tryz.prog 93 #[.string s] w (MeantIn (meantB s[0]) w) := by
  have hne : (s.toList == []) = false := by
    rw [str_is]
    exact decide_eq_false (fun e => by rw [Lib.size_eq, e] at h; exact absurd h (by simp))
  have hne2 : s.toList.isEmpty = false := by
    cases hx : s.toList with
    | nil => rw [hx] at hne; cases hne
    | cons _ _ => rfl
  rcases byte_meant (s[0]).toNat with ⟨c1, n1⟩ | ⟨c1, c2, n1⟩ | ⟨c1, c2, c3, n1⟩ | ⟨c1, c2, c3, c4, n1⟩ | ⟨c1, c2, c3, c4, n1, n2, n3, n4⟩
  · have HX : Hid (meantB s[0] = some 10) := by show _ = _; rw [meantB, if_pos n1]
    clear n1
    rw [HX.out]
    go_enter Tryz.func93, Tryz.ntmps93
    go_wp2_with fail
    go_ret2
    exact ⟨rfl, rfl⟩
  · have HX : Hid (meantB s[0] = some 9) := by show _ = _; rw [meantB, if_neg (by omega), if_pos n1]
    clear n1
    rw [HX.out]
    go_enter Tryz.func93, Tryz.ntmps93
    go_wp2_with fail
    go_ret2
    exact ⟨rfl, rfl⟩
  · have HX : Hid (meantB s[0] = some s[0]) := by show _ = _; rw [meantB, if_neg (by omega), if_neg (by omega), if_pos (.inl n1)]
    clear n1
    rw [HX.out]
    go_enter Tryz.func93, Tryz.ntmps93
    go_wp2_with fail
    go_ret2
    exact ⟨rfl, rfl⟩
  · have HX : Hid (meantB s[0] = some s[0]) := by show _ = _; rw [meantB, if_neg (by omega), if_neg (by omega), if_pos (.inr n1)]
    clear n1
    rw [HX.out]
    go_enter Tryz.func93, Tryz.ntmps93
    go_wp2_with fail
    go_ret2
    exact ⟨rfl, rfl⟩
  · have HX : Hid (meantB s[0] = none) := by show _ = _; rw [meantB, if_neg n1, if_neg n2, if_neg (by omega)]
    clear n1 n2 n3 n4
    rw [HX.out]
    go_enter Tryz.func93, Tryz.ntmps93
    go_wp2_with fail
    go_ret2
    exact ⟨rfl, rfl⟩

def meantL : List UInt8 → Option UInt8
  | [] => none
  | d :: _ => meantB d
theorem cmeant_all (s : ByteArray) (w : World) : Calls Tryz.prog 93 #[.string s] w (MeantIn (meantL s.data.toList) w) := by
  by_cases h : 0 < s.size
  · rw [str_head s h]
    exact cmeant_any s h w
  · have hse : s = ⟨#[]⟩ := by
      rw [← Lib.mk_data s]
      have : s.data.toList = [] := List.eq_nil_of_length_eq_zero (by rw [← Lib.size_eq]; omega)
      rw [this]
    subst hse
    exact cmeant_empty w

theorem byte_dbl (c : Nat) : (((c : Int) == 34) = true ∧ c = 34) ∨ (((c : Int) == 34) = false ∧ ((c : Int) == 10) = true ∧ c = 10) ∨ (((c : Int) == 34) = false ∧ ((c : Int) == 10) = false ∧ ((c : Int) == 9) = true ∧ c = 9) ∨ (((c : Int) == 34) = false ∧ ((c : Int) == 10) = false ∧ ((c : Int) == 9) = false ∧ ((c : Int) == 92) = true ∧ c = 92) ∨ (((c : Int) == 34) = false ∧ ((c : Int) == 10) = false ∧ ((c : Int) == 9) = false ∧ ((c : Int) == 92) = false ∧ c ≠ 34 ∧ c ≠ 10 ∧ c ≠ 9 ∧ c ≠ 92) := by
  simp only [beq_iff_eq, beq_eq_false_iff_ne, ne_eq]
  omega

/-- What double leaves. -/
def DoubleIn (o : Option (List UInt8 × List UInt8)) (w : World) (e : Ending) (w' : World) : Prop := Below w.heap.size w w' ∧ match o with
  | none => e = .returned (.tuple #[.string ⟨#[]⟩, .string ⟨#[]⟩, .bool false])
  | some (a, b) => e = .returned (.tuple #[.string ⟨a.toArray⟩, .string ⟨b.toArray⟩, .bool true])

theorem dbl_fin {o o' : Option (List UInt8 × List UInt8)} {w w' : World} {e : Ending} (h : o = o') (hD : DoubleIn o' w e w') : DoubleIn o w e w' := h ▸ hD
theorem ext_from (s : ByteArray) (j : Nat) : s.extract j s.size = ⟨(s.data.toList.drop j).toArray⟩ := by
  rw [← Lib.mk_data (s.extract j s.size), ext_drop]

set_option maxRecDepth 100000 in
theorem conv_own {base : Nat} {w : World} {al : Option Addr} {c : Nat} {l : List UInt8} (h : OwnB base w (.slice al l.length c) l) : (convert 67 9 (.slice al l.length c)).run Tryz.prog w = .ok (.string ⟨l.toArray⟩) w := by
  by_cases hl : 0 < l.length
  · obtain ⟨g, c', hv, hcells⟩ := ownB_form h hl
    injection hv with e1 e2 e3
    subst e1 e3
    exact run_convert_bytes_back (P := Tryz.prog) w 67 9 5 ⟨g, 0, none⟩ c l Tryz.underlying67 Tryz.underlying5 Tryz.underlying9 hcells
  · have e : l = [] := List.eq_nil_of_length_eq_zero (by omega)
    subst e
    exact run_convert_bytes_zero w 67 5 Tryz.underlying67 Tryz.underlying5 al c 9 Tryz.underlying9

set_option maxHeartbeats 4000000 in
theorem cdouble_any (s : ByteArray) (hs : s.size ≤ 1000000000000) (w : World) : Calls Tryz.prog 67 #[.string s] w (DoubleIn (dblL [] s.data.toList) w) := by
  obtain ⟨i0, hi, hz0, hz1, hz2⟩ := info_byte
  have HI0 := Lib.hid hi
  have HZ0 := Lib.hid hz0
  have HZ1 := Lib.hid hz1
  have HZ2 := Lib.hid hz2
  clear hi hz0 hz1 hz2
  go_enter Tryz.func67, Tryz.ntmps67
  go_wp2_with fail
  go_loopw [5, 6] (fun v vi wr => ∃ (j : Nat) (acc : List UInt8), j ≤ s.size ∧ acc.length ≤ j ∧ vi = .int .i64 j ∧ OwnB w.heap.size wr v acc ∧ Below w.heap.size w wr ∧ Hid (dblL [] s.data.toList = dblL acc (s.data.toList.drop j))) (fun _ vi _ => s.size - (intOf vi).toNat)
  case atStart => exact ⟨0, [], Nat.zero_le _, Nat.zero_le _, rfl, ⟨rfl, .inl ⟨rfl, rfl⟩⟩, Below.refl _ _, rfl⟩
  case round =>
    obtain ⟨j, acc, hj, hal, rfl, hown, hbel, HD⟩ := hrel
    obtain ⟨al, cl, rfl⟩ := row_form hown
    have HO := Lib.hid hown
    have HBE := Lib.hid hbel
    have hbs : w.heap.size ≤ wr.heap.size := hbel.size
    clear hown hbel
    by_cases hjl : j < s.size
    · have HS := Lib.hid (drop_step s j hjl)
      rcases byte_dbl (s[j]).toNat with ⟨c1, n1⟩ | ⟨c1, c2, n1⟩ | ⟨c1, c2, c3, n1⟩ | ⟨c1, c2, c3, c4, n1⟩ | ⟨c1, c2, c3, c4, n1, n2, n3, n4⟩
      · have HX : Hid (dblL [] s.data.toList = some (acc, s.data.toList.drop (j + 1))) := by show _ = _; rw [HD.out, HS.out, dbl_cons, if_pos n1]
        clear n1
        have hconv : ∀ n, (convert 67 9 (.slice al acc.length cl)).run Tryz.prog (wr.drewN n) = .ok (.string ⟨acc.toArray⟩) (wr.drewN n) := fun n => conv_own (World.ownsRow.kept (row := none) HO.out (grown_of_below (bdrewN (Below.refl _ _) n) none) (by
          cases hv : (Value.slice al acc.length cl).ownBlock with
          | none => exact .inl rfl
          | some k => exact .inr (by simp)))
        go_wp2_with fail
        go_quiet (fail)
        go_wp2_with fail
        go_ret3
        refine dbl_fin HX.out ⟨HBE.out.trans (bdrewN (Below.refl _ _) nq), ?_⟩
        show Ending.returned (.tuple #[.string ⟨acc.toArray⟩, .string (s.extract (j + 1) s.size), .bool true]) = .returned (.tuple #[.string ⟨acc.toArray⟩, .string ⟨(s.data.toList.drop (j + 1)).toArray⟩, .bool true])
        rw [ext_from]
      · have HX : Hid (dblL [] s.data.toList = none) := by show _ = _; rw [HD.out, HS.out, dbl_cons, if_neg (by omega), if_pos (.inl n1)]
        clear n1
        go_wp2_with fail
        go_ret3
        exact dbl_fin HX.out ⟨HBE.out, rfl⟩
      · have HX : Hid (dblL [] s.data.toList = none) := by show _ = _; rw [HD.out, HS.out, dbl_cons, if_neg (by omega), if_pos (.inr n1)]
        clear n1
        go_wp2_with fail
        go_ret3
        exact dbl_fin HX.out ⟨HBE.out, rfl⟩
      · have HX : Hid (∀ x, meantL (s.data.toList.drop (j + 1)) = x → dblL [] s.data.toList = match x with
            | none => none
            | some b => dblL (acc ++ [b]) (s.data.toList.drop (j + 1 + 1))) := fun x hx => by
          rw [HD.out, HS.out, dbl_cons, if_neg (by omega), if_neg (by omega), if_pos n1]
          cases hd : s.data.toList.drop (j + 1) with
          | nil => rw [hd] at hx; subst hx; rfl
          | cons d r2 =>
            rw [hd] at hx
            have hr : s.data.toList.drop (j + 1 + 1) = r2 := by
              rw [← List.drop_drop, hd]
              rfl
            rw [hr, ← hx]
            simp only [meantL]
        clear n1
        cases hm : meantL (s.data.toList.drop (j + 1)) with
        | none =>
          have HX2 : Hid (dblL [] s.data.toList = none) := HX.out _ hm
          have HM := Lib.hid hm
          clear hm
          go_wp2_with (go_at_call 93; refine (cmeant_all _ _).mono ?_; rintro e w2 ⟨hw, he⟩; rw [ext_drop, HM.out] at he; have hw2 := hw.symm; subst hw2; subst he)
          go_ret3
          exact dbl_fin HX2.out ⟨HBE.out, rfl⟩
        | some b =>
          have HX2 : Hid (dblL [] s.data.toList = dblL (acc ++ [b]) (s.data.toList.drop (j + 1 + 1))) := HX.out _ hm
          have HM := Lib.hid hm
          have hj2 : j + 1 < s.size := by
            rcases Nat.lt_or_ge (j + 1) s.size with h | h
            · exact h
            · rw [List.drop_eq_nil_of_le (by rw [← Lib.size_eq]; exact h)] at hm
              cases hm
          clear hm
          have O1 : Hid (OwnB w.heap.size (wr.alloc (.cells #[.int .u8 b.toNat] 5)) (.slice al acc.length cl) acc) := World.ownsRow.alloc HO.out _
          go_wp2_with (first
            | (go_at_call 93; refine (cmeant_all _ _).mono ?_; rintro e w2 ⟨hw, he⟩; rw [ext_drop, HM.out] at he; have hw2 := hw.symm; subst hw2; subst he)
            | (at_builtin; (refine wpList_append_own_any _ rfl (.tmp 45) (.tmp 47) 67 rfl w.heap.size 5 i0 _ 1 1 Tryz.underlying67 HI0.out HZ0.out HZ1.out HZ2.out (by rfl) (by decide) (.slice al acc.length cl) acc.length _ rfl O1.out (some ⟨wr.heap.size, 0, none⟩) 1 1 [.int .u8 b.toNat] rfl rfl (fun h => by cases h) (byte_lit wr _ _) (fun u hu => by simp at hu; subst hu; rfl) (by unfold maxLen; omega) (by omega) (by simp; omega) ?_)
               intro v2 w3 own2 hg2 hob2
               have G := Lib.hid ((grew_of (b := b) own2 hg2 hob2).alloc)
               have HBN : Hid (Below w.heap.size w w3) := Below.grown (HBE.out.alloc HBE.out.size _) hg2 (by simp; omega) (fun k hk => ((World.ownsRow.lt O1.out) k hk).1)
               clear own2 hg2 hob2))
          go_roundw
          case rel => exact ⟨j + 1 + 1, acc ++ [b], by omega, by simp; omega, by go_num, G.out.1, HBN.out, HX2.out⟩
          case measure => simp [intOf]; omega
      · have HX : Hid (dblL [] s.data.toList = dblL (acc ++ [s[j]]) (s.data.toList.drop (j + 1))) := by show _ = _; rw [HD.out, HS.out, dbl_cons, if_neg n1, if_neg (by omega), if_neg n4]
        clear n1 n2 n3 n4
        obtain ⟨b, hb⟩ : ∃ b, s[j] = b := ⟨_, rfl⟩
        have O1 : Hid (OwnB w.heap.size (wr.alloc (.cells #[.int .u8 s[j].toNat] 5)) (.slice al acc.length cl) acc) := World.ownsRow.alloc HO.out _
        clear hb b
        go_wp2_with (first
            | (at_builtin; (refine wpList_append_own_any _ rfl (.tmp 45) (.tmp 47) 67 rfl w.heap.size 5 i0 _ 1 1 Tryz.underlying67 HI0.out HZ0.out HZ1.out HZ2.out (by rfl) (by decide) (.slice al acc.length cl) acc.length _ rfl O1.out (some ⟨wr.heap.size, 0, none⟩) 1 1 [.int .u8 s[j].toNat] rfl rfl (fun h => by cases h) (byte_lit wr _ _) (fun u hu => by simp at hu; subst hu; rfl) (by unfold maxLen; omega) (by omega) (by simp; omega) ?_)
               intro v2 w3 own2 hg2 hob2
               have G := Lib.hid ((grew_of (b := s[j]) own2 hg2 hob2).alloc)
               have HBN : Hid (Below w.heap.size w w3) := Below.grown (HBE.out.alloc HBE.out.size _) hg2 (by simp; omega) (fun k hk => ((World.ownsRow.lt O1.out) k hk).1)
               clear own2 hg2 hob2))
        go_roundw
        case rel => exact ⟨j + 1, acc ++ [s[j]], by omega, by simp; omega, by go_num, G.out.1, HBN.out, HX.out⟩
        case measure => simp [intOf]; omega
    · have HX : Hid (dblL [] s.data.toList = none) := by
        show _ = _
        rw [HD.out, List.drop_eq_nil_of_le (by rw [← Lib.size_eq]; omega)]
        rfl
      go_wp2_with fail
      go_ret3
      exact dbl_fin HX.out ⟨HBE.out, rfl⟩

end Go.Proofs.YtlniokpekcoodaaGreatDoor
