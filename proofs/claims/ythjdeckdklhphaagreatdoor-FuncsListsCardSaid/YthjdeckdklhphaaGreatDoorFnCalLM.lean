/-
  Package funcs' Call of list, dict, len, keys, get, has.
-/
import Derived.Test.YthjdeckdklhphaaGreatDoorFnAnsM
import Derived.Test.YthjdeckdklhphaaGreatDoorFnAwake
import Derived.Test.YthjdeckdklhphaaGreatDoorOwnDM
import Derived.Test.YthjdeckdklhphaaGreatDoorPutAllM
import Derived.Test.YthjdeckdklhphaaGreatDoorGoodM
import Derived.Maps.RangeWalk
import Derived.Maps.OwnSet
import Derived.Sort.MapsRangeIn
set_option linter.unusedVariables false
set_option linter.unusedSimpArgs false
namespace Go.Proofs.YthjdeckdklhphaaGreatDoor
open Go.RowKit

/-- A value, and an error; the value lies behind. -/
def CallE (w : World) (c : Int) (r : T) (e : Ending) (w' : World) : Prop := ∃ ds, e = .returned (.tuple #[.agg ds, .int .i64 c]) ∧ (c = 0 ∧ Lies w' (fun b => w.heap.size < b) r ds ∨ c ≠ 0 ∧ ds = zeroV) ∧ Below w.heap.size w w'
theorem callE {name : ByteArray} {k : Nat} (hk : k < 29) (he : (fnAt k).1 = name) {sa : Option Addr} {len sc : Nat} (hlo : (fnAt k).2.1 ≤ (len : Int)) (hhi : (len : Int) ≤ (fnAt k).2.2) {c : Int} {r : T} (hs : c = 0 → r.str.size ≤ 65536) (w : World) (hw : FnTab w)
    (H : ∀ w1, Below w.heap.size w w1 → w.heap.size < w1.heap.size → Calls Tryz.prog 16 #[.string name, .slice sa len sc] w1 (ValE w1 c r)) :
    Calls Tryz.prog 6 #[.string name, .slice sa len sc] w (CallE w c r) := by
  refine (fCall_all name k hk he (fun i hi => by rw [← he]; exact fn_first hk i hi) sa len sc hlo hhi (fun ds c' w' => c' = c ∧ (c = 0 ∧ Lies w' (fun b => w.heap.size < b) r ds ∨ c ≠ 0 ∧ ds = zeroV)) w (fun ds c' w1 w2 hs hk h => ⟨h.1, h.2.imp (fun ⟨h1, h2⟩ => ⟨h1, (h2.keepB fun b hb hlt => hk b (by omega) hlt).weaken fun b hb => hb.1⟩) id⟩) hw fun w1 hw1 hlt => ?_).mono ?_
  · refine (H w1 hw1 hlt).mono ?_
    rintro e w' ⟨ds, rfl, hL, hb⟩
    obtain ⟨m0, m1, m2, m3, m4, m4l, m4c, m5, m5l, m5c, rfl⟩ := hL.six
    have hm : m3 = r.str := by cases hL; rfl
    by_cases hc : c = 0
    · exact ⟨_, _, _, _, _, _, _, _, _, _, _, rfl, .inl ⟨hc, by rw [hm]; exact hs hc, hc.symm, .inl ⟨hc, hL.weaken fun b hb => by omega⟩⟩, hb⟩
    · exact ⟨_, _, _, _, _, _, _, _, _, _, _, rfl, .inr ⟨hc, rfl, .inr ⟨hc, rfl⟩⟩, hb⟩
  · rintro e w' ⟨ds, c', rfl, ⟨rfl, h⟩, hb⟩
    exact ⟨ds, rfl, h, hb⟩
theorem callC {name : ByteArray} {k : Nat} (hk : k < 29) (he : (fnAt k).1 = name) {sa : Option Addr} {len sc : Nat} (hlo : (fnAt k).2.1 ≤ (len : Int)) (hhi : (len : Int) ≤ (fnAt k).2.2) {k0 : Int} {b0 : Bool} {n0 : Int} {s0 : ByteArray} {la : Option Addr} {ll lc : Nat} {ma : Option Addr} {ml mc : Nat} (hs : s0.size ≤ 65536) (w : World) (hw : FnTab w)
    (H : ∀ w1, Below w.heap.size w w1 → Calls Tryz.prog 16 #[.string name, .slice sa len sc] w1 fun e w' => e = .returned (.tuple #[.agg (sixV k0 b0 n0 s0 la ll lc ma ml mc), .int .i64 0]) ∧ Below w1.heap.size w1 w') :
    Calls Tryz.prog 6 #[.string name, .slice sa len sc] w fun e w' => e = .returned (.tuple #[.agg (sixV k0 b0 n0 s0 la ll lc ma ml mc), .int .i64 0]) ∧ Below w.heap.size w w' := by
  refine (fCall_all name k hk he (fun i hi => by rw [← he]; exact fn_first hk i hi) sa len sc hlo hhi (fun ds c' w' => c' = 0 ∧ ds = sixV k0 b0 n0 s0 la ll lc ma ml mc) w (fun ds c' w1 w2 hs hk h => h) hw fun w1 hw1 hlt => ?_).mono ?_
  · refine (H w1 hw1).mono ?_
    rintro e w' ⟨rfl, hb⟩
    exact ⟨_, _, _, _, _, _, _, _, _, _, _, rfl, .inl ⟨rfl, hs, rfl, rfl⟩, hb⟩
  · rintro e w' ⟨ds, c', rfl, ⟨rfl, rfl⟩, hb⟩
    exact ⟨rfl, hb⟩

theorem call_list {w0 : World} {R : Nat → Prop} {ts : List T} {a : Option Addr} {cap : Nat} {cl : Nat → Array Value} (h : SliceV w0 R ts a cap cl) (hz : (T.listOf ts).size ≤ 4611686018427387904) (hn : ts.length ≤ 1000) (w : World) (hw : Below w0.heap.size w0 w) (hf : FnTab w) :
    Calls Tryz.prog 6 #[.string ⟨#[108, 105, 115, 116]⟩, .slice a ts.length cap] w (CallE w (T.listOf ts).check (T.listOf ts)) :=
  callE (k := 12) (by decide) rfl (show (0 : Int) ≤ _ by omega) (show _ ≤ (9223372036854775807 : Int) by omega) (fun _ => Nat.zero_le _) w hf fun w1 hb _ => fanswer_list h hz w1 (bstep hw hb hw.size)
theorem call_dict {w0 : World} {R : Nat → Prop} {ts : List T} {a : Option Addr} {cap : Nat} {cl : Nat → Array Value} (h : SliceV w0 R ts a cap cl) (ps : List (ByteArray × T)) (hn : ts.length = 2 * ps.length) (hp : ps.length ≤ 1000)
    (hk : ∀ j (h : j < ps.length) (h1 : 2 * j < ts.length), ts[2 * j] = keyT ps[j].1) (hv : ∀ j (h : j < ps.length) (h1 : 2 * j + 1 < ts.length), ts[2 * j + 1] = ps[j].2)
    (hz : (T.mk 5 false 0 ⟨#[]⟩ [] (putAll ps)).size ≤ 4611686018427387904) (w : World) (hw : Below w0.heap.size w0 w) (hf : FnTab w) :
    Calls Tryz.prog 6 #[.string ⟨#[100, 105, 99, 116]⟩, .slice a ts.length cap] w (CallE w (T.mk 5 false 0 ⟨#[]⟩ [] (putAll ps)).check (.mk 5 false 0 ⟨#[]⟩ [] (putAll ps))) :=
  callE (k := 3) (by decide) rfl (show (0 : Int) ≤ _ by omega) (show _ ≤ (9223372036854775807 : Int) by omega) (fun _ => Nat.zero_le _) w hf fun w1 hb _ => fanswer_dict h ps hn (by omega) hk hv hz w1 (bstep hw hb hw.size)
theorem call_keys {w0 : World} {R : Nat → Prop} {a0 : Int} {a1 : Bool} {a2 : Int} {a3 : ByteArray} {a4 : Option Addr} {a4l a4c : Nat} {a5 : Option Addr} {a5l a5c : Nat} {m : List (ByteArray × T)} (h : Lies w0 R (.mk 5 false 0 ⟨#[]⟩ [] m) #[.int .i64 a0, .bool a1, .int .i64 a2, .string a3, .slice a4 a4l a4c, .slice a5 a5l a5c]) (sb : Nat) (w : World) (hw : Below w0.heap.size w0 w) (hf : FnTab w) (hx : Box6 w sb #[.int .i64 a0, .bool a1, .int .i64 a2, .string a3, .slice a4 a4l a4c, .slice a5 a5l a5c]) (hsb : sb < w.heap.size) :
    Calls Tryz.prog 6 #[.string ⟨#[107, 101, 121, 115]⟩, .slice (some ⟨sb, 0, none⟩) 1 1] w (CallE w 0 (T.listOf (m.map fun p => keyT p.1))) :=
  callE (k := 10) (by decide) rfl (by decide) (by decide) (fun _ => Nat.zero_le _) w hf fun w1 hb _ => fanswer_keys h sb w1 (bstep hw hb hw.size) (hx.later hb hsb) (Nat.lt_of_lt_of_le hsb hb.size)
theorem call_len {w0 : World} {R : Nat → Prop} {a0 : Int} {a1 : Bool} {a2 : Int} {a3 : ByteArray} {a4 : Option Addr} {a4l a4c : Nat} {a5 : Option Addr} {a5l a5c : Nat} {ts : List T} (h : Lies w0 R (T.listOf ts) #[.int .i64 a0, .bool a1, .int .i64 a2, .string a3, .slice a4 a4l a4c, .slice a5 a5l a5c]) (sb : Nat) (w : World) (hf : FnTab w) (hx : Box6 w sb #[.int .i64 a0, .bool a1, .int .i64 a2, .string a3, .slice a4 a4l a4c, .slice a5 a5l a5c]) (hsb : sb < w.heap.size) :
    Calls Tryz.prog 6 #[.string ⟨#[108, 101, 110]⟩, .slice (some ⟨sb, 0, none⟩) 1 1] w fun e w' => e = .returned (.tuple #[.agg #[.int .i64 2, .bool false, .int .i64 (ts.length : Int), .string ⟨#[]⟩, .slice none 0 0, .slice none 0 0], .int .i64 0]) ∧ Below w.heap.size w w' :=
  callC (k := 11) (by decide) rfl (by decide) (by decide) (Nat.zero_le _) w hf fun w1 hb => fanswer_len h sb w1 (hx.later hb hsb) (Nat.lt_of_lt_of_le hsb hb.size)
theorem call_getL {w0 : World} {R : Nat → Prop} {a0 : Int} {a1 : Bool} {a2 : Int} {a3 : ByteArray} {a4 : Option Addr} {a4l a4c : Nat} {a5 : Option Addr} {a5l a5c : Nat} {ts : List T} (h : Lies w0 R (T.listOf ts) #[.int .i64 a0, .bool a1, .int .i64 a2, .string a3, .slice a4 a4l a4c, .slice a5 a5l a5c]) (ix : Nat) (hix : ix < ts.length) (hs : ts[ix].str.size ≤ 65536) (sb : Nat) (w : World) (hw : Below w0.heap.size w0 w) (hf : FnTab w) (hx : TwoV w sb (.int .i64 a0) (.bool a1) (.int .i64 a2) (.string a3) (.slice a4 a4l a4c) (.slice a5 a5l a5c) (.int .i64 2) (.bool false) (.int .i64 (ix : Int)) (.string ⟨#[]⟩) (.slice none 0 0) (.slice none 0 0)) :
    Calls Tryz.prog 6 #[.string ⟨#[103, 101, 116]⟩, .slice (some ⟨sb, 0, none⟩) 2 2] w (CallE w 0 ts[ix]) :=
  callE (k := 5) (by decide) rfl (by decide) (by decide) (fun _ => hs) w hf fun w1 hb _ => fanswer_getL h ix hix sb w1 (bstep hw hb hw.size) (hx.later hb)
theorem call_getM {w0 : World} {R : Nat → Prop} {a0 : Int} {a1 : Bool} {a2 : Int} {a3 : ByteArray} {a4 : Option Addr} {a4l a4c : Nat} {a5 : Option Addr} {a5l a5c : Nat} {m : List (ByteArray × T)} (h : Lies w0 R (.mk 5 false 0 ⟨#[]⟩ [] m) #[.int .i64 a0, .bool a1, .int .i64 a2, .string a3, .slice a4 a4l a4c, .slice a5 a5l a5c]) (key : ByteArray) {r : T} (hr : ((T.mk 5 false 0 ⟨#[]⟩ [] m).get key).getD T.nil = r) (hs : r.str.size ≤ 65536) (sb : Nat) (w : World) (hw : Below w0.heap.size w0 w) (hf : FnTab w) (hx : TwoV w sb (.int .i64 a0) (.bool a1) (.int .i64 a2) (.string a3) (.slice a4 a4l a4c) (.slice a5 a5l a5c) (.int .i64 3) (.bool false) (.int .i64 0) (.string key) (.slice none 0 0) (.slice none 0 0)) :
    Calls Tryz.prog 6 #[.string ⟨#[103, 101, 116]⟩, .slice (some ⟨sb, 0, none⟩) 2 2] w (CallE w 0 r) :=
  callE (k := 5) (by decide) rfl (by decide) (by decide) (fun _ => hs) w hf fun w1 hb _ => by
    have := fanswer_getM h key sb w1 (bstep hw hb hw.size) (hx.later hb)
    rw [hr] at this
    exact this
theorem call_has {w0 : World} {R : Nat → Prop} {a0 : Int} {a1 : Bool} {a2 : Int} {a3 : ByteArray} {a4 : Option Addr} {a4l a4c : Nat} {a5 : Option Addr} {a5l a5c : Nat} {b0 : Int} {b1 : Bool} {b2 : Int} {b3 : ByteArray} {b4 : Option Addr} {b4l b4c : Nat} {b5 : Option Addr} {b5l b5c : Nat} {R2 : Nat → Prop} {ts : List T} {u : T} (h : Lies w0 R (T.listOf ts) #[.int .i64 b0, .bool b1, .int .i64 b2, .string b3, .slice b4 b4l b4c, .slice b5 b5l b5c]) (h2 : Lies w0 R2 u #[.int .i64 a0, .bool a1, .int .i64 a2, .string a3, .slice a4 a4l a4c, .slice a5 a5l a5c]) (sb : Nat) (w : World) (hw : Below w0.heap.size w0 w) (hf : FnTab w) (hx : TwoV w sb (.int .i64 a0) (.bool a1) (.int .i64 a2) (.string a3) (.slice a4 a4l a4c) (.slice a5 a5l a5c) (.int .i64 b0) (.bool b1) (.int .i64 b2) (.string b3) (.slice b4 b4l b4c) (.slice b5 b5l b5c)) :
    Calls Tryz.prog 6 #[.string ⟨#[104, 97, 115]⟩, .slice (some ⟨sb, 0, none⟩) 2 2] w fun e w' => e = .returned (.tuple #[.agg #[.int .i64 1, .bool (ts.any (isT u)), .int .i64 0, .string ⟨#[]⟩, .slice none 0 0, .slice none 0 0], .int .i64 0]) ∧ Below w.heap.size w w' :=
  callC (k := 6) (by decide) rfl (by decide) (by decide) (Nat.zero_le _) w hf fun w1 hb => fanswer_has h h2 sb w1 (bstep hw hb hw.size) (hx.later hb)

end Go.Proofs.YthjdeckdklhphaaGreatDoor

/-
  A slice of values of one's own, that go through no block at all.
-/
set_option linter.unusedVariables false
set_option linter.unusedSimpArgs false
namespace Go.Proofs.YthjdeckdklhphaaGreatDoor
open Go.RowKit Go.Sort

structure OwnL (base : Nat) (w : World) (v : Value) (ts : List T) (D : List (Array Value)) : Prop where
  len : D.length = ts.length
  own : w.ownsRow base 28 6 v ts.length (D.flatMap Array.toList)
  each : ∀ i (h : i < ts.length) (h' : i < D.length), Lies w (fun _ => False) ts[i] D[i]
theorem lies_leaf {w w' : World} {t : T} {ds : Array Value} (h : Lies w (fun _ => False) t ds) : Lies w' (fun _ => False) t ds := h.keep fun b hb => hb.elim
theorem OwnL.nil (base : Nat) (w : World) : OwnL base w (.slice none 0 0) [] [] := ⟨rfl, World.ownsRow_nil w base 28 6, fun i h => absurd h (by simp)⟩
theorem OwnL.block {base : Nat} {w : World} {v : Value} {ts : List T} {D : List (Array Value)} (h : OwnL base w v ts D) {g : Nat} (hg : v.ownBlock = some g) : base ≤ g ∧ g < w.heap.size := by
  rcases h.own.2 with ⟨e, hn⟩ | ⟨g', cap, cur, e, hb, hg', _⟩
  · rw [e] at hg; cases hg
  · rw [e] at hg
    obtain rfl : g' = g := by injection hg
    exact ⟨hb, (Array.getElem?_eq_some_iff.1 hg').1⟩
theorem OwnL.kept {base : Nat} {w w' : World} {v : Value} {ts : List T} {D : List (Array Value)} {row : Option Nat} (h : OwnL base w v ts D) (hg : w.grownBy w' row) (hne : v.ownBlock = none ∨ v.ownBlock ≠ row) : OwnL base w' v ts D :=
  ⟨h.len, h.own.kept hg hne, fun i hi hi' => lies_leaf (h.each i hi hi')⟩
theorem OwnL.later {base : Nat} {w w' : World} {v : Value} {ts : List T} {D : List (Array Value)} (h : OwnL base w v ts D) (hb : Below w.heap.size w w') : OwnL base w' v ts D :=
  h.kept (grown_of_below hb none) (match v.ownBlock with
    | none => .inl rfl
    | some g => .inr (by simp))
theorem OwnL.two {base : Nat} {w w' : World} {v v' : Value} {ts : List T} {D : List (Array Value)} {x y : T} {cx cy : Array Value} (h : OwnL base w v ts D) (hx : Lies w (fun _ => False) x cx) (hy : Lies w (fun _ => False) y cy)
    (own : w'.ownsRow base 28 6 v' (ts.length + 2) (D.flatMap Array.toList ++ (cx.toList ++ cy.toList))) : OwnL base w' v' (ts ++ [x, y]) (D ++ [cx, cy]) := by
  have hl := h.len
  refine ⟨by simp [hl], by simpa using own, fun i hi hi' => ?_⟩
  rcases Nat.lt_or_ge i ts.length with h1 | h1
  · have e1 : (ts ++ [x, y])[i] = ts[i] := List.getElem_append_left h1
    have e2 : (D ++ [cx, cy])[i] = D[i]'(by omega) := List.getElem_append_left (by omega)
    rw [e1, e2]
    exact lies_leaf (h.each i h1 (by omega))
  · simp at hi
    rcases (by omega : i = ts.length ∨ i = ts.length + 1) with rfl | rfl
    · have e1 : (ts ++ [x, y])[ts.length]'(by simp) = x := by simp
      have e2 : (D ++ [cx, cy])[ts.length]'(by simp; omega) = cx := by simp [← hl]
      rw [e1, e2]
      exact lies_leaf hx
    · have e1 : (ts ++ [x, y])[ts.length + 1]'(by simp) = y := by simp
      have e2 : (D ++ [cx, cy])[ts.length + 1]'(by simp; omega) = cy := by simp [← hl]
      rw [e1, e2]
      exact lies_leaf hy
theorem OwnL.done {base : Nat} {w : World} {v : Value} {ts : List T} {D : List (Array Value)} (h : OwnL base w v ts D) (hx : ts.length * 88 ≤ 140737488355328) :
    ∃ a cap, v = .slice a ts.length cap ∧ SliceV w (fun b => base ≤ b) ts a cap (fun i => D.getD i #[]) := by
  have hD : ∀ d ∈ D, d.size = 6 := fun d hd => by
    obtain ⟨i, hi, rfl⟩ := List.getElem_of_mem hd
    exact (h.each i (by have := h.len; omega) hi).size6
  have hown := h.own
  rcases hown.2 with ⟨e, hn⟩ | ⟨g', cap', cur, e, hbg, hgc, hnc, hcm, hcs, htake⟩
  · have hK : ts = [] := List.eq_nil_of_length_eq_zero hn
    subst hK
    exact ⟨none, 0, e, ⟨⟨by simp, by simp, fun _ => rfl, fun hp => absurd hp (by simp), by omega⟩, fun i hi => absurd hi (by simp), fun i hi => absurd hi (by simp)⟩⟩
  · subst e
    refine ⟨_, _, rfl, ⟨hnc, hx, by simp, fun _ => ⟨g', 0, rfl, hbg⟩, by unfold maxLen at hcm; omega⟩, fun i hi bl ol e k hk => ?_, fun i hi => ?_⟩
    · simp only [Option.some.injEq, Addr.mk.injEq, and_true] at e
      obtain ⟨rfl, rfl⟩ := e
      have hi' : i < D.length := by rw [h.len]; exact hi
      have eD : D.getD i #[] = D[i] := by simp [List.getD, hi']
      have hk' : k < 6 := by have := hD D[i] (List.getElem_mem hi'); simp only [eD] at hk; omega
      have hlt : i * 6 + k < ts.length * 6 := by omega
      rw [Nat.zero_add, hown.cellAt (i * 6 + k) hlt, flat_get D hD i hi' k (by rw [hD D[i] (List.getElem_mem hi')]; exact hk')]
      exact congrArg some (get_congr eD.symm k _ _)
    · have hi' : i < D.length := by rw [h.len]; exact hi
      have eD : D.getD i #[] = D[i] := by simp [List.getD, hi']
      rw [eD]
      exact (h.each i hi hi').weaken fun b hb => hb.elim

end Go.Proofs.YthjdeckdklhphaaGreatDoor

/-
  Lists of good values; maps of numbers by keys, put one by one; Go's own map of the same numbers.
-/
set_option linter.unusedVariables false
set_option linter.unusedSimpArgs false
namespace Go.Proofs.YthjdeckdklhphaaGreatDoor
open Go.RowKit Go.Maps

def numT (n : Int) : T := .mk 2 false n ⟨#[]⟩ [] []
theorem numT_size (n : Int) : (numT n).size = 1 := by rw [numT, T.size_mk]; rfl
theorem numT_depth (n : Int) : (numT n).depth = 1 := by rw [numT, T.depth_mk]; rfl
theorem numT_parts (n : Int) : (numT n).parts = 0 := by
  rw [numT, T.parts_mk, if_neg (by simp [kindBad]), if_neg (by decide)]
  rfl

theorem list_check {ts : List T} (h : ts.all T.good = true) : (T.mk 4 false 0 ⟨#[]⟩ ts []).check = 0 ∨ (T.mk 4 false 0 ⟨#[]⟩ ts []).check = 5 ∨ (T.mk 4 false 0 ⟨#[]⟩ ts []).check = 6 := by
  have hp : (T.mk 4 false 0 ⟨#[]⟩ ts []).parts = 0 := by
    have h0 : firstNZ (ts.map T.parts) = 0 := firstNZ_zero _ fun x hx => by
      obtain ⟨t, ht, rfl⟩ := List.mem_map.1 hx
      exact good_parts (List.all_eq_true.1 h t ht)
    rw [T.parts_mk, if_neg (by simp [kindBad]), if_neg (by decide), if_neg (by simp [h0])]
    rfl
  unfold T.check
  rw [hp]
  split
  · exact .inr (.inl rfl)
  · split
    · exact .inr (.inr rfl)
    · exact .inl rfl

theorem putAll_mem {ps : Prs} : ∀ (j : Nat) {q : ByteArray × T}, q ∈ putAll (ps.take j) → q ∈ ps
  | 0, q, h => by rw [List.take_zero] at h; cases h
  | j + 1, q, h => by
    by_cases hj : j < ps.length
    · rw [putAll_take ps j hj] at h
      rcases putR_mem h with rfl | h
      · exact List.getElem_mem hj
      · exact putAll_mem j h
    · have e : ps.take (j + 1) = ps.take j := by rw [List.take_of_length_le (by omega), List.take_of_length_le (by omega)]
      rw [e] at h
      exact putAll_mem j h

theorem sizes_ones : ∀ {m : Prs}, (∀ q ∈ m, q.2.size = 1) → (m.map fun p => p.2.size).sum = m.length
  | [], _ => rfl
  | p :: r, h => by
    rw [List.map_cons, List.sum_cons, h p List.mem_cons_self, sizes_ones fun q hq => h q (List.mem_cons_of_mem _ hq), List.length_cons]
    omega
theorem depths_ones : ∀ {m : Prs}, (∀ q ∈ m, q.2.depth = 1) → (m.map fun p => p.2.depth).foldr max 0 ≤ 1
  | [], _ => Nat.zero_le _
  | p :: r, h => by
    rw [List.map_cons, List.foldr_cons, h p List.mem_cons_self]
    have := depths_ones fun q hq => h q (List.mem_cons_of_mem _ hq)
    omega

theorem leS_back {a b : ByteArray} (h : ltS b a = true) : leS a b = false := by
  have h1 : Op.bytesLess a.toList b.toList = false := ltS_asym h
  unfold leS
  rw [h1, Bool.false_or, beq_eq_false_iff_ne]
  intro e
  have h2 : Op.bytesLess b.toList a.toList = true := h
  rw [e] at h2
  have h3 : ltS b b = false := ltS_irr b
  rw [ltS, h2] at h3
  cases h3

/-- A map of numbers by keys is right. -/
theorem dict_check {m : Prs} (ha : Asc m) (hl : m.length ≤ 4000) (hk : ∀ q ∈ m, keyB q.1 = true ∧ ∃ n, q.2 = numT n) : (T.mk 5 false 0 ⟨#[]⟩ [] m).check = 0 := by
  have hs : ∀ q ∈ m, q.2.size = 1 := fun q hq => by obtain ⟨n, e⟩ := (hk q hq).2; rw [e, numT_size]
  have hd : ∀ q ∈ m, q.2.depth = 1 := fun q hq => by obtain ⟨n, e⟩ := (hk q hq).2; rw [e, numT_depth]
  have h1 : (T.mk 5 false 0 ⟨#[]⟩ [] m).size = 1 + m.length := by
    rw [T.size_mk, sizes_ones hs]
    rfl
  have h2 : (T.mk 5 false 0 ⟨#[]⟩ [] m).depth ≤ 2 := by
    rw [T.depth_mk]
    have := depths_ones hd
    simp
    omega
  have h3 : (T.mk 5 false 0 ⟨#[]⟩ [] m).parts = 0 := by
    have h0 : partsP (m.map fun p => (p.1, p.2.parts)) = 0 := partsP_zero _ fun i hi => by
      rw [List.length_map] at hi
      have hq := hk m[i] (List.getElem_mem hi)
      have := pcode_in m i hi hq.1 fun hp => by
        have := List.pairwise_iff_getElem.1 ha (i - 1) i (by omega) hi (by omega)
        exact leS_back this
      show pcode m i = 0
      rw [this]
      obtain ⟨n, e⟩ := hq.2
      rw [e, numT_parts]
    rw [T.parts_mk, if_neg (by simp [kindBad]), if_neg (by decide), if_neg (by simp [firstNZ])]
    exact h0
  unfold T.check
  rw [if_neg (by omega), if_neg (by omega), h3]

theorem putR_length {key : ByteArray} {x : T} : ∀ {m : Prs}, Asc m → (putR key x m).length = if (findR key m).isSome = true then m.length else m.length + 1
  | [], _ => by simp [putR, findR]
  | p :: r, ha => by
    have har : Asc r := (List.pairwise_cons.1 ha).2
    rcases putR_cases p key with ⟨h, hn⟩ | h | ⟨h, hn⟩
    · rw [putR_lt h, List.length_cons, putR_length har, findR_skip hn]
      split <;> rfl
    · rw [putR_eq h, findR_here h]
      rfl
    · rw [putR_gt h hn, findR_skip hn]
      have : findR key r = none := findR_none fun q hq e => by
        have h1 := (List.pairwise_cons.1 ha).1 q hq
        rw [e] at h1
        rw [h1] at h
        cases h
      rw [this]
      rfl

/-- Go's own map of strings and numbers, and a map of the same. -/
structure Both {H : Type} (D : DataW H) (m : Prs) : Prop where
  tidy : Tidy D
  asc : Asc m
  size : Maps.size D = m.length
  each : ∀ x : ByteArray, (∃ c : Int, (∀ z, D.atKey (.string x.data.toList) z = .lit (.int .i64 c)) ∧ findR x m = some (numT c)) ∨ (Maps.has D (.string x.data.toList) = false ∧ findR x m = none)
theorem Both.nil {H : Type} : Both (.map [] : DataW H) [] := ⟨tidy_empty, List.Pairwise.nil, rfl, fun x => .inr ⟨rfl, rfl⟩⟩
theorem key_lit (k : ByteArray) : WideAt.IsKeyLit (.string k.data.toList) := trivial
theorem bytes_ne {x k : ByteArray} (h : x ≠ k) : (Lit.string x.data.toList) ≠ .string k.data.toList := fun e => h (by
  have e1 : x.data.toList = k.data.toList := by injection e
  have e2 : x.data = k.data := Array.toList_inj.1 e1
  cases x; cases k; cases e2; rfl)
theorem Both.put {H : Type} {D : DataW H} {m : Prs} (h : Both D m) (k : ByteArray) (n : Int) : Both (D.put (.string k.data.toList) (.lit (.int .i64 n))) (putR k (numT n) m) := by
  refine ⟨h.tidy.put (key_lit k) _, putR_asc h.asc, ?_, fun x => ?_⟩
  · rw [Go.Maps.size_put h.tidy, putR_length h.asc, h.size]
    rcases h.each k with ⟨c, h1, h2⟩ | ⟨h1, h2⟩
    · rw [h2, has_true_of_atKey h1]
      rfl
    · rw [h2, h1]
      rfl
  · by_cases e : x = k
    · subst e
      exact .inl ⟨n, fun z => atKey_put_same h.tidy.isMap (key_lit x) _ z, putR_find _ _ _⟩
    · rcases h.each x with ⟨c, h1, h2⟩ | ⟨h1, h2⟩
      · exact .inl ⟨c, fun z => (atKey_put_other (bytes_ne e) _ z).trans (h1 z), (putR_other k x _ e m).trans h2⟩
      · exact .inr ⟨(has_put_other (bytes_ne e) _).trans h1, (putR_other k x _ e m).trans h2⟩

end Go.Proofs.YthjdeckdklhphaaGreatDoor

/-
  Ranging over Go's own map of strings and numbers, one step.
-/
set_option linter.unusedVariables false
set_option linter.unusedSimpArgs false
namespace Go.Proofs.YthjdeckdklhphaaGreatDoor
open Go.RowKit Go.Maps

theorem keyOf_string_lit {P : Program} {k : TypeId} (hk : P.underlying k = some .string) {s : ByteArray} {kl : Lit} (h : keyOf P k (.string s) = some kl) : kl = .string s.data.toList ∧ s.size ≤ maxLen := by
  by_cases hs : s.size ≤ maxLen
  · rw [WideMaps.keyOf_string_mk hk hs] at h
    exact ⟨(Option.some.inj h).symm, hs⟩
  · exfalso
    revert h
    simp [keyOf, mapKey, hk, Lit.wf]
    omega

theorem wpList_next_ranges_si {H : Type} {P : Program} (w : World) {ops : Array Oper} {rest : List Oper} {o : Oper} {a : Act} {Q : Exit → Act → World → Prop} (hg : o.guard = none) (it : Operand) (hop : o.op = Op.next it false) (k e : TypeId) (K : Keyed P k) (hk : P.underlying k = some .string) (he : P.underlying e = some (.int .i64))
    (b r n : Nat) (D : DataW H) (left : Lit → Bool) (cnt : Nat) (hit : a.eval it = .pointer (some ⟨r, 0, none⟩)) (h : w.ranges P k (plainElem P e) b r n D left cnt)
    (hDone : cnt = 0 → (∀ kl, left kl = false) → wpList P ops Q rest (a.put o.dst (.tuple #[.bool false])) w)
    (hMore : ∀ (x : ByteArray) (c : Int) (w' : World) (cnt' : Nat), left (.string x.data.toList) = true → (∀ zd, D.atKey (.string x.data.toList) zd = .lit (.int .i64 c)) → w'.ranges P k (plainElem P e) b r n D (fun z => left z && !z.sameKey (.string x.data.toList)) cnt' → cnt' < cnt →
      w.grownBy w' (some r) → w'.heap.size = w.heap.size → (Instr.entry (.pointer (some ⟨r, 0, none⟩))).run P w' = .ok (.tuple #[.string x, .int .i64 c]) w' → wpList P ops Q rest (a.put o.dst (.tuple #[.bool true, .string x, .int .i64 c])) w') :
    wpList P ops Q (o :: rest) a w :=
  wpList_next_ranges w hg it hop k K (plainElem P e) Value.string (Value.int .i64) (fun key kl hkey => Maps.keyOf_string_inv hk hkey) (fun v y hv => by obtain ⟨c, rfl, _⟩ := plainElem_int_inv he hv; exact ⟨c, rfl⟩)
    b r n D left cnt hit h hDone (fun x c kl y w' cnt' hkey hlk hv hat hrg hlt hgr hsz hen => by
      obtain ⟨rfl, _⟩ := keyOf_string_lit hk hkey
      obtain ⟨c', ec, rfl, hwc⟩ := plainElem_int_inv he hv
      cases ec
      exact hMore x c w' cnt' hlk hat hrg hlt hgr hsz hen)

end Go.Proofs.YthjdeckdklhphaaGreatDoor
