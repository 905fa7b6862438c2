/-
  Two values made, and laid into two variables, by a statement whose order is open.
-/
import Derived.Test.YthjdeckdklhphaaGreatDoorRegionM
import Derived.Test.YthjdeckdklhphaaGreatDoorCloneP
set_option linter.unusedVariables false
set_option linter.unusedSimpArgs false
namespace Go.Proofs.YthjdeckdklhphaaGreatDoor
open Go.RowKit

def zeroA : Array Value := #[.int .i64 0, .bool false, .int .i64 0, .string ⟨#[]⟩, .slice none 0 0, .slice none 0 0]
/-- A variable that was just made. -/
structure ZB (w : World) (g : Nat) : Prop where
  cell : ∀ j, w.cell? ⟨g, j, none⟩ = zeroA[j]?
  frozen : ∀ j, w.frozen? ⟨g, j, none⟩ = false
  lt : g < w.heap.size
theorem ZB.later {w w' : World} {g : Nat} (h : ZB w g) (hb : Below w.heap.size w w') : ZB w' g :=
  ⟨fun j => (hb.cell (p := ⟨g, j, none⟩) h.lt).trans (h.cell j), fun j => (hb.frozen (p := ⟨g, j, none⟩) h.lt).trans (h.frozen j), Nat.lt_of_lt_of_le h.lt hb.size⟩
theorem ZB.new (w : World) : ZB (w.alloc (.cells zeroA 28)) w.heap.size := ⟨fun j => World.cell?_alloc_new _ _ _ _, fun j => World.frozen?_alloc_new _ _ _ _, by simp⟩

/-- How far the statement is: e1, e2: the values are made; n5, n6: the variables. -/
structure Ph (v : World) (P1 P2 : T) (e1 e2 n5 n6 : Bool) (x1 x2 y5 y6 : Value) (w : World) : Prop where
  below : Below v.heap.size v w
  rest : ∃ (S1 S2 : Nat → Prop) (g5 g6 : Nat),
    (e1 = true → (∃ cs, x1 = .agg cs ∧ Lies w S1 P1 cs) ∧ ∀ b, S1 b → v.heap.size ≤ b ∧ b < w.heap.size) ∧
    (e2 = true → (∃ cs, x2 = .agg cs ∧ Lies w S2 P2 cs) ∧ ∀ b, S2 b → v.heap.size ≤ b ∧ b < w.heap.size) ∧
    (n5 = true → y5 = .pointer (some ⟨g5, 0, none⟩) ∧ ZB w g5 ∧ v.heap.size ≤ g5) ∧
    (n6 = true → y6 = .pointer (some ⟨g6, 0, none⟩) ∧ ZB w g6 ∧ v.heap.size ≤ g6) ∧
    (n5 = true → n6 = true → g5 ≠ g6) ∧ (e1 = true → n5 = true → ¬ S1 g5) ∧ (e1 = true → n6 = true → ¬ S1 g6) ∧ (e2 = true → n5 = true → ¬ S2 g5) ∧ (e2 = true → n6 = true → ¬ S2 g6)

section
variable {v : World} {P1 P2 : T} {e1 e2 n5 n6 : Bool} {x1 x2 y5 y6 : Value} {w w' : World}
theorem Ph.start {v0 : World} (hb : Below v.heap.size v v0) (x1 x2 y5 y6 : Value) : Ph v P1 P2 false false false false x1 x2 y5 y6 v0 :=
  ⟨hb, fun _ => False, fun _ => False, 0, 0, (by simp), (by simp), (by simp), (by simp), (by simp), (by simp), (by simp), (by simp), (by simp)⟩
theorem Ph.later (h : Ph v P1 P2 e1 e2 n5 n6 x1 x2 y5 y6 w) (hb : Below w.heap.size w w') : Ph v P1 P2 e1 e2 n5 n6 x1 x2 y5 y6 w' := by
  obtain ⟨hv, S1, S2, g5, g6, a1, a2, a3, a4, a5⟩ := h
  refine ⟨bstep hv hb hv.size, S1, S2, g5, g6, fun e => ?_, fun e => ?_, fun e => ?_, fun e => ?_, a5⟩
  · obtain ⟨⟨cs, hx, hl⟩, hs⟩ := a1 e
    exact ⟨⟨cs, hx, hl.later hb⟩, fun b hb' => ⟨(hs b hb').1, by have := (hs b hb').2; have := hb.size; omega⟩⟩
  · obtain ⟨⟨cs, hx, hl⟩, hs⟩ := a2 e
    exact ⟨⟨cs, hx, hl.later hb⟩, fun b hb' => ⟨(hs b hb').1, by have := (hs b hb').2; have := hb.size; omega⟩⟩
  · obtain ⟨hy, hz, hg⟩ := a3 e
    exact ⟨hy, hz.later hb, hg⟩
  · obtain ⟨hy, hz, hg⟩ := a4 e
    exact ⟨hy, hz.later hb, hg⟩
theorem Ph.first (h : Ph v P1 P2 e1 e2 n5 n6 x1 x2 y5 y6 w) {cs : Array Value} (hl : Lies w' (fun b => w.heap.size ≤ b) P1 cs) (hb : Below w.heap.size w w') : Ph v P1 P2 true e2 n5 n6 (.agg cs) x2 y5 y6 w' := by
  have h2 := h.later hb
  obtain ⟨hv, S1, S2, g5, g6, a1, a2, a3, a4, a5, a6, a7, a8, a9⟩ := h
  obtain ⟨hv2, T1, T2, k5, k6, c1, c2, c3, c4, c5, c6, c7, c8, c9⟩ := h2
  refine ⟨hv2, fun b => w.heap.size ≤ b ∧ b < w'.heap.size, T2, k5, k6, fun _ => ⟨⟨cs, rfl, hl.bound⟩, fun b hb' => ⟨by have := hv.size; omega, hb'.2⟩⟩, c2, c3, c4, c5, fun _ e hk => ?_, fun _ e hk => ?_, c8, c9⟩
  · have z := (a3 e).2.1.lt
    have e5 : k5 = g5 := by
      have := ((a3 e).1).symm.trans (c3 e).1
      injection this with this
      injection this with this
      injection this with this
      exact this.symm
    omega
  · have z := (a4 e).2.1.lt
    have e6 : k6 = g6 := by
      have := ((a4 e).1).symm.trans (c4 e).1
      injection this with this
      injection this with this
      injection this with this
      exact this.symm
    omega
theorem Ph.second (h : Ph v P1 P2 e1 e2 n5 n6 x1 x2 y5 y6 w) {cs : Array Value} (hl : Lies w' (fun b => w.heap.size ≤ b) P2 cs) (hb : Below w.heap.size w w') : Ph v P1 P2 e1 true n5 n6 x1 (.agg cs) y5 y6 w' := by
  have h2 := h.later hb
  obtain ⟨hv, S1, S2, g5, g6, a1, a2, a3, a4, a5, a6, a7, a8, a9⟩ := h
  obtain ⟨hv2, T1, T2, k5, k6, c1, c2, c3, c4, c5, c6, c7, c8, c9⟩ := h2
  refine ⟨hv2, T1, fun b => w.heap.size ≤ b ∧ b < w'.heap.size, k5, k6, c1, fun _ => ⟨⟨cs, rfl, hl.bound⟩, fun b hb' => ⟨by have := hv.size; omega, hb'.2⟩⟩, c3, c4, c5, c6, c7, fun _ e hk => ?_, fun _ e hk => ?_⟩
  · have z := (a3 e).2.1.lt
    have e5 : k5 = g5 := by
      have := ((a3 e).1).symm.trans (c3 e).1
      injection this with this
      injection this with this
      injection this with this
      exact this.symm
    omega
  · have z := (a4 e).2.1.lt
    have e6 : k6 = g6 := by
      have := ((a4 e).1).symm.trans (c4 e).1
      injection this with this
      injection this with this
      injection this with this
      exact this.symm
    omega
theorem Ph.five (h : Ph v P1 P2 e1 e2 n5 n6 x1 x2 y5 y6 w) : Ph v P1 P2 e1 e2 true n6 x1 x2 (.pointer (some ⟨w.heap.size, 0, none⟩)) y6 (w.alloc (.cells zeroA 28)) := by
  have h2 := h.later ((Below.refl w.heap.size w).alloc (Nat.le_refl _) (.cells zeroA 28))
  obtain ⟨hv, S1, S2, g5, g6, a1, a2, a3, a4, a5, a6, a7, a8, a9⟩ := h
  obtain ⟨hv2, b1⟩ := h2
  have hb := (Below.refl w.heap.size w).alloc (Nat.le_refl _) (.cells zeroA 28)
  refine ⟨hv2, S1, S2, w.heap.size, g6, fun e => ?_, fun e => ?_, fun _ => ⟨rfl, ZB.new w, hv.size⟩, fun e => ?_, fun _ e hk => ?_, fun e _ hk => ?_, a7, fun e _ hk => ?_, a9⟩
  · obtain ⟨⟨cs, hx, hl⟩, hs⟩ := a1 e
    exact ⟨⟨cs, hx, hl.later hb⟩, fun b hb' => ⟨(hs b hb').1, by have := (hs b hb').2; simp; omega⟩⟩
  · obtain ⟨⟨cs, hx, hl⟩, hs⟩ := a2 e
    exact ⟨⟨cs, hx, hl.later hb⟩, fun b hb' => ⟨(hs b hb').1, by have := (hs b hb').2; simp; omega⟩⟩
  · obtain ⟨hy, hz, hg⟩ := a4 e
    exact ⟨hy, hz.later hb, hg⟩
  · have := (a4 e).2.1.lt
    omega
  · have := ((a1 e).2 _ hk).2
    omega
  · have := ((a2 e).2 _ hk).2
    omega
theorem Ph.six (h : Ph v P1 P2 e1 e2 n5 n6 x1 x2 y5 y6 w) : Ph v P1 P2 e1 e2 n5 true x1 x2 y5 (.pointer (some ⟨w.heap.size, 0, none⟩)) (w.alloc (.cells zeroA 28)) := by
  obtain ⟨hv, S1, S2, g5, g6, a1, a2, a3, a4, a5, a6, a7, a8, a9⟩ := h
  have hb := (Below.refl w.heap.size w).alloc (Nat.le_refl _) (.cells zeroA 28)
  refine ⟨bstep hv hb hv.size, S1, S2, g5, w.heap.size, fun e => ?_, fun e => ?_, fun e => ?_, fun _ => ⟨rfl, ZB.new w, hv.size⟩, fun e _ hk => ?_, a6, fun e _ hk => ?_, a8, fun e _ hk => ?_⟩
  · obtain ⟨⟨cs, hx, hl⟩, hs⟩ := a1 e
    exact ⟨⟨cs, hx, hl.later hb⟩, fun b hb' => ⟨(hs b hb').1, by have := (hs b hb').2; simp; omega⟩⟩
  · obtain ⟨⟨cs, hx, hl⟩, hs⟩ := a2 e
    exact ⟨⟨cs, hx, hl.later hb⟩, fun b hb' => ⟨(hs b hb').1, by have := (hs b hb').2; simp; omega⟩⟩
  · obtain ⟨hy, hz, hg⟩ := a3 e
    exact ⟨hy, hz.later hb, hg⟩
  · have := (a3 e).2.1.lt
    omega
  · have := ((a1 e).2 _ hk).2
    omega
  · have := ((a2 e).2 _ hk).2
    omega
end

/-- Both are made, and both variables. -/
structure Rdy (v : World) (P1 P2 : T) (g5 g6 : Nat) (cs ds : Array Value) (w : World) : Prop where
  below : Below v.heap.size v w
  one : Lies w (fun b => v.heap.size ≤ b ∧ b ≠ g5 ∧ b ≠ g6) P1 cs
  two : Lies w (fun b => v.heap.size ≤ b ∧ b ≠ g5 ∧ b ≠ g6) P2 ds
  z5 : ZB w g5
  z6 : ZB w g6
  ne : g5 ≠ g6
  l5 : v.heap.size ≤ g5
  l6 : v.heap.size ≤ g6
theorem Ph.ready {v : World} {P1 P2 : T} {x1 x2 y5 y6 : Value} {w : World} (h : Ph v P1 P2 true true true true x1 x2 y5 y6 w) : ∃ g5 g6 cs ds, x1 = .agg cs ∧ x2 = .agg ds ∧ y5 = .pointer (some ⟨g5, 0, none⟩) ∧ y6 = .pointer (some ⟨g6, 0, none⟩) ∧ Rdy v P1 P2 g5 g6 cs ds w := by
  obtain ⟨hv, S1, S2, g5, g6, a1, a2, a3, a4, a5, a6, a7, a8, a9⟩ := h
  obtain ⟨⟨cs, rfl, hl1⟩, hs1⟩ := a1 rfl
  obtain ⟨⟨ds, rfl, hl2⟩, hs2⟩ := a2 rfl
  obtain ⟨rfl, z5, l5⟩ := a3 rfl
  obtain ⟨rfl, z6, l6⟩ := a4 rfl
  exact ⟨g5, g6, cs, ds, rfl, rfl, rfl, rfl, hv, hl1.weaken fun b hb => ⟨(hs1 b hb).1, fun e => a6 rfl rfl (e ▸ hb), fun e => a7 rfl rfl (e ▸ hb)⟩, hl2.weaken fun b hb => ⟨(hs2 b hb).1, fun e => a8 rfl rfl (e ▸ hb), fun e => a9 rfl rfl (e ▸ hb)⟩, z5, z6, a5 rfl rfl, l5, l6⟩
theorem zb_row {w : World} {g h : Nat} (hz : ZB w g) (hn : g ≠ h) (vs : List Value) : ZB (setRow w h 0 vs) g :=
  ⟨fun j => (World.cell?_of_block (setRow_heap _ _ _ _ _ hn)).trans (hz.cell j), fun j => (World.frozen?_of_block (setRow_heap _ _ _ _ _ hn)).trans (hz.frozen j), by have := hz.lt; rw [setRow_size]; exact this⟩

abbrev upd (d : Nat → Bool) (i : Nat) : Nat → Bool := fun k => if k = i then true else d k

/-- The first variable is laid. -/
structure Mid (v : World) (P1 P2 : T) (g5 g6 : Nat) (cs ds : Array Value) (w : World) : Prop where
  below : Below v.heap.size v w
  one : Lies w (fun b => v.heap.size ≤ b ∧ b ≠ g6) P1 cs
  two : Lies w (fun b => v.heap.size ≤ b ∧ b ≠ g6) P2 ds
  box : Row w g5 0 cs
  z6 : ZB w g6
  ne : g5 ≠ g6
  l5 : v.heap.size ≤ g5
  l6 : v.heap.size ≤ g6
/-- Both are. -/
structure Fin (v : World) (P1 P2 : T) (g5 g6 : Nat) (cs ds : Array Value) (w : World) : Prop where
  below : Below v.heap.size v w
  one : Lies w (fun b => v.heap.size ≤ b) P1 cs
  two : Lies w (fun b => v.heap.size ≤ b) P2 ds
  box : Row w g5 0 cs
  box2 : Row w g6 0 ds
  l5 : v.heap.size ≤ g5
  l6 : v.heap.size ≤ g6

theorem zb_rows {w : World} {g : Nat} (hz : ZB w g) (vs : List Value) (h6 : vs.length = 6) : Row (setRow w g 0 vs) g 0 vs.toArray := fun j hj => by
  have hj' : j < vs.length := by simpa using hj
  have := setRow_cell g vs w 0 (fun i hi => ⟨zeroA[i]'(by show i < 6; omega), by rw [Nat.zero_add, hz.cell i, Array.getElem?_eq_getElem]⟩) j hj'
  simpa using this
theorem Rdy.mid {v : World} {P1 P2 : T} {g5 g6 : Nat} {cs ds : Array Value} {w : World} (h : Rdy v P1 P2 g5 g6 cs ds w) : Mid v P1 P2 g5 g6 cs ds (setRow w g5 0 cs.toList) :=
  ⟨setRow_below _ h.l5 _ _ _ h.below, (h.one.keep fun b hb => setRow_heap _ _ _ _ _ hb.2.1).weaken fun b hb => ⟨hb.1, hb.2.2⟩, (h.two.keep fun b hb => setRow_heap _ _ _ _ _ hb.2.1).weaken fun b hb => ⟨hb.1, hb.2.2⟩,
    by have := zb_rows h.z5 cs.toList (by simpa using h.one.size6); simpa using this, zb_row h.z6 (Ne.symm h.ne) _, h.ne, h.l5, h.l6⟩
theorem Mid.fin {v : World} {P1 P2 : T} {g5 g6 : Nat} {cs ds : Array Value} {w : World} (h : Mid v P1 P2 g5 g6 cs ds w) : Fin v P1 P2 g5 g6 cs ds (setRow w g6 0 ds.toList) :=
  ⟨setRow_below _ h.l6 _ _ _ h.below, (h.one.keep fun b hb => setRow_heap _ _ _ _ _ hb.2).weaken fun b hb => hb.1, (h.two.keep fun b hb => setRow_heap _ _ _ _ _ hb.2).weaken fun b hb => hb.1,
    fun j hj => (World.cell?_of_block (setRow_heap _ _ _ _ _ h.ne)).trans (h.box j hj), by have := zb_rows h.z6 ds.toList (by simpa using h.two.size6); simpa using this, h.l5, h.l6⟩

/-- The statement's ten operations: what is made ahead of each call (0, 1; 3, 4), the calls (2; 5), the variables (6, 7), the stores (8, 9). -/
def Phase (c10 c43 : Bool) (v : World) (P1 P2 : T) (U0 U1 U3 U4 : Value → World → Prop) (d : Nat → Bool) (x0 x1 x2 x3 x4 x5 y5 y6 : Value) (w : World) : Prop :=
  (d 8 = false ∧ d 9 = false ∧ (d 0 = true → U0 x0 w) ∧ (d 1 = true → U1 x1 w) ∧ (d 3 = true → U3 x3 w) ∧ (d 4 = true → U4 x4 w) ∧ (d 5 = true → d 3 = true ∧ d 4 = true) ∧ (d 2 = true → d 0 = true ∧ d 1 = true) ∧ Ph v P1 P2 (d 2) (d 5) (d 6) (d 7) x2 x5 y5 y6 w ∧ (c10 = true → d 1 = true → d 0 = true) ∧ (c43 = true → d 4 = true → d 3 = true)) ∨
  ((∀ k, k < 9 → d k = true) ∧ d 9 = false ∧ ∃ g5 g6 cs ds, y5 = .pointer (some ⟨g5, 0, none⟩) ∧ y6 = .pointer (some ⟨g6, 0, none⟩) ∧ x5 = .agg ds ∧ Mid v P1 P2 g5 g6 cs ds w) ∨
  ((∀ k, k < 10 → d k = true) ∧ ∃ g5 g6 cs ds, y5 = .pointer (some ⟨g5, 0, none⟩) ∧ y6 = .pointer (some ⟨g6, 0, none⟩) ∧ Fin v P1 P2 g5 g6 cs ds w)

section
variable {c10 c43 : Bool} {v : World} {P1 P2 : T} {U0 U1 U3 U4 : Value → World → Prop} {d : Nat → Bool} {x0 x1 x2 x3 x4 x5 y5 y6 x : Value} {w w' : World}
theorem Phase.below (h : Phase c10 c43 v P1 P2 U0 U1 U3 U4 d x0 x1 x2 x3 x4 x5 y5 y6 w) : Below v.heap.size v w := by
  rcases h with h | ⟨_, _, g5, g6, cs, ds, _, _, _, h⟩ | ⟨_, g5, g6, cs, ds, _, _, h⟩
  · exact h.2.2.2.2.2.2.2.2.1.below
  · exact h.below
  · exact h.below
theorem Phase.early (h : Phase c10 c43 v P1 P2 U0 U1 U3 U4 d x0 x1 x2 x3 x4 x5 y5 y6 w) {i : Nat} (hi : i < 8) (hd : d i = false) : d 8 = false ∧ d 9 = false ∧ (d 0 = true → U0 x0 w) ∧ (d 1 = true → U1 x1 w) ∧ (d 3 = true → U3 x3 w) ∧ (d 4 = true → U4 x4 w) ∧ (d 5 = true → d 3 = true ∧ d 4 = true) ∧ (d 2 = true → d 0 = true ∧ d 1 = true) ∧ Ph v P1 P2 (d 2) (d 5) (d 6) (d 7) x2 x5 y5 y6 w ∧ (c10 = true → d 1 = true → d 0 = true) ∧ (c43 = true → d 4 = true → d 3 = true) := by
  rcases h with h | ⟨h, _⟩ | ⟨h, _⟩
  · exact h
  · rw [h i (by omega)] at hd; cases hd
  · rw [h i (by omega)] at hd; cases hd
variable (m0 : ∀ x w w', Below w.heap.size w w' → U0 x w → U0 x w') (m1 : ∀ x w w', Below w.heap.size w w' → U1 x w → U1 x w') (m3 : ∀ x w w', Below w.heap.size w w' → U3 x w → U3 x w') (m4 : ∀ x w w', Below w.heap.size w w' → U4 x w → U4 x w')
include m0 m1 m3 m4
theorem Phase.at0 (h : Phase c10 c43 v P1 P2 U0 U1 U3 U4 d x0 x1 x2 x3 x4 x5 y5 y6 w) (hd : d 0 = false) (hb : Below w.heap.size w w') (hx : U0 x w') : Phase c10 c43 v P1 P2 U0 U1 U3 U4 (upd d 0) x x1 x2 x3 x4 x5 y5 y6 w' := by
  have _m := m0
  obtain ⟨h8, h9, a0, a1, a3, a4, a5, a2, hp, k1, k4⟩ := h.early (by decide) hd
  exact .inl ⟨by simpa [upd] using h8, by simpa [upd] using h9, fun _ => hx, fun e => m1 _ _ _ hb (a1 (by simpa [upd] using e)), fun e => m3 _ _ _ hb (a3 (by simpa [upd] using e)), fun e => m4 _ _ _ hb (a4 (by simpa [upd] using e)), by simpa [upd] using a5, fun e => (by simpa [upd] using (a2 (by simpa [upd] using e)).2), by simpa [upd] using hp.later hb, fun _ _ => (by simp [upd]), by simpa [upd] using k4⟩
theorem Phase.at1 (h : Phase c10 c43 v P1 P2 U0 U1 U3 U4 d x0 x1 x2 x3 x4 x5 y5 y6 w) (hd : d 1 = false) (hc : c10 = true → d 0 = true) (hb : Below w.heap.size w w') (hx : U1 x w') : Phase c10 c43 v P1 P2 U0 U1 U3 U4 (upd d 1) x0 x x2 x3 x4 x5 y5 y6 w' := by
  have _m := m1
  obtain ⟨h8, h9, a0, a1, a3, a4, a5, a2, hp, k1, k4⟩ := h.early (by decide) hd
  exact .inl ⟨by simpa [upd] using h8, by simpa [upd] using h9, fun e => m0 _ _ _ hb (a0 (by simpa [upd] using e)), fun _ => hx, fun e => m3 _ _ _ hb (a3 (by simpa [upd] using e)), fun e => m4 _ _ _ hb (a4 (by simpa [upd] using e)), by simpa [upd] using a5, fun e => (by simpa [upd] using (a2 (by simpa [upd] using e)).1), by simpa [upd] using hp.later hb, fun c _ => (by simpa [upd] using hc c), by simpa [upd] using k4⟩
theorem Phase.at3 (h : Phase c10 c43 v P1 P2 U0 U1 U3 U4 d x0 x1 x2 x3 x4 x5 y5 y6 w) (hd : d 3 = false) (hb : Below w.heap.size w w') (hx : U3 x w') : Phase c10 c43 v P1 P2 U0 U1 U3 U4 (upd d 3) x0 x1 x2 x x4 x5 y5 y6 w' := by
  have _m := m3
  obtain ⟨h8, h9, a0, a1, a3, a4, a5, a2, hp, k1, k4⟩ := h.early (by decide) hd
  exact .inl ⟨by simpa [upd] using h8, by simpa [upd] using h9, fun e => m0 _ _ _ hb (a0 (by simpa [upd] using e)), fun e => m1 _ _ _ hb (a1 (by simpa [upd] using e)), fun _ => hx, fun e => m4 _ _ _ hb (a4 (by simpa [upd] using e)), fun e => (by simpa [upd] using (a5 (by simpa [upd] using e)).2), by simpa [upd] using a2, by simpa [upd] using hp.later hb, by simpa [upd] using k1, fun _ _ => (by simp [upd])⟩
theorem Phase.at4 (h : Phase c10 c43 v P1 P2 U0 U1 U3 U4 d x0 x1 x2 x3 x4 x5 y5 y6 w) (hd : d 4 = false) (hc : c43 = true → d 3 = true) (hb : Below w.heap.size w w') (hx : U4 x w') : Phase c10 c43 v P1 P2 U0 U1 U3 U4 (upd d 4) x0 x1 x2 x3 x x5 y5 y6 w' := by
  have _m := m4
  obtain ⟨h8, h9, a0, a1, a3, a4, a5, a2, hp, k1, k4⟩ := h.early (by decide) hd
  exact .inl ⟨by simpa [upd] using h8, by simpa [upd] using h9, fun e => m0 _ _ _ hb (a0 (by simpa [upd] using e)), fun e => m1 _ _ _ hb (a1 (by simpa [upd] using e)), fun e => m3 _ _ _ hb (a3 (by simpa [upd] using e)), fun _ => hx, fun e => (by simpa [upd] using (a5 (by simpa [upd] using e)).1), by simpa [upd] using a2, by simpa [upd] using hp.later hb, by simpa [upd] using k1, fun c _ => (by simpa [upd] using hc c)⟩
theorem Phase.at2 (h : Phase c10 c43 v P1 P2 U0 U1 U3 U4 d x0 x1 x2 x3 x4 x5 y5 y6 w) (hd : d 2 = false) (d0 : d 0 = true) (d1 : d 1 = true) {cs : Array Value} (hl : Lies w' (fun b => w.heap.size ≤ b) P1 cs) (hb : Below w.heap.size w w') : Phase c10 c43 v P1 P2 U0 U1 U3 U4 (upd d 2) x0 x1 (.agg cs) x3 x4 x5 y5 y6 w' := by
  obtain ⟨h8, h9, a0, a1, a3, a4, a5, a2, hp, k1, k4⟩ := h.early (by decide) hd
  exact .inl ⟨by simpa [upd] using h8, by simpa [upd] using h9, fun e => m0 _ _ _ hb (a0 d0), fun e => m1 _ _ _ hb (a1 d1), fun e => m3 _ _ _ hb (a3 (by simpa [upd] using e)), fun e => m4 _ _ _ hb (a4 (by simpa [upd] using e)), by simpa [upd] using a5, fun _ => (by simpa [upd] using ⟨d0, d1⟩), by simpa [upd] using hp.first hl hb, by simpa [upd] using k1, by simpa [upd] using k4⟩
theorem Phase.at5 (h : Phase c10 c43 v P1 P2 U0 U1 U3 U4 d x0 x1 x2 x3 x4 x5 y5 y6 w) (hd : d 5 = false) (d3 : d 3 = true) (d4 : d 4 = true) {cs : Array Value} (hl : Lies w' (fun b => w.heap.size ≤ b) P2 cs) (hb : Below w.heap.size w w') : Phase c10 c43 v P1 P2 U0 U1 U3 U4 (upd d 5) x0 x1 x2 x3 x4 (.agg cs) y5 y6 w' := by
  obtain ⟨h8, h9, a0, a1, a3, a4, a5, a2, hp, k1, k4⟩ := h.early (by decide) hd
  exact .inl ⟨by simpa [upd] using h8, by simpa [upd] using h9, fun e => m0 _ _ _ hb (a0 (by simpa [upd] using e)), fun e => m1 _ _ _ hb (a1 (by simpa [upd] using e)), fun e => m3 _ _ _ hb (a3 d3), fun e => m4 _ _ _ hb (a4 d4), fun _ => (by simpa [upd] using ⟨d3, d4⟩), by simpa [upd] using a2, by simpa [upd] using hp.second hl hb, by simpa [upd] using k1, by simpa [upd] using k4⟩
theorem Phase.at6 (h : Phase c10 c43 v P1 P2 U0 U1 U3 U4 d x0 x1 x2 x3 x4 x5 y5 y6 w) (hd : d 6 = false) : Phase c10 c43 v P1 P2 U0 U1 U3 U4 (upd d 6) x0 x1 x2 x3 x4 x5 (.pointer (some ⟨w.heap.size, 0, none⟩)) y6 (w.alloc (.cells zeroA 28)) := by
  have hb := (Below.refl w.heap.size w).alloc (Nat.le_refl _) (.cells zeroA 28)
  obtain ⟨h8, h9, a0, a1, a3, a4, a5, a2, hp, k1, k4⟩ := h.early (by decide) hd
  exact .inl ⟨by simpa [upd] using h8, by simpa [upd] using h9, fun e => m0 _ _ _ hb (a0 (by simpa [upd] using e)), fun e => m1 _ _ _ hb (a1 (by simpa [upd] using e)), fun e => m3 _ _ _ hb (a3 (by simpa [upd] using e)), fun e => m4 _ _ _ hb (a4 (by simpa [upd] using e)), by simpa [upd] using a5, by simpa [upd] using a2, by simpa [upd] using hp.five, by simpa [upd] using k1, by simpa [upd] using k4⟩
theorem Phase.at7 (h : Phase c10 c43 v P1 P2 U0 U1 U3 U4 d x0 x1 x2 x3 x4 x5 y5 y6 w) (hd : d 7 = false) : Phase c10 c43 v P1 P2 U0 U1 U3 U4 (upd d 7) x0 x1 x2 x3 x4 x5 y5 (.pointer (some ⟨w.heap.size, 0, none⟩)) (w.alloc (.cells zeroA 28)) := by
  have hb := (Below.refl w.heap.size w).alloc (Nat.le_refl _) (.cells zeroA 28)
  obtain ⟨h8, h9, a0, a1, a3, a4, a5, a2, hp, k1, k4⟩ := h.early (by decide) hd
  exact .inl ⟨by simpa [upd] using h8, by simpa [upd] using h9, fun e => m0 _ _ _ hb (a0 (by simpa [upd] using e)), fun e => m1 _ _ _ hb (a1 (by simpa [upd] using e)), fun e => m3 _ _ _ hb (a3 (by simpa [upd] using e)), fun e => m4 _ _ _ hb (a4 (by simpa [upd] using e)), by simpa [upd] using a5, by simpa [upd] using a2, by simpa [upd] using hp.six, by simpa [upd] using k1, by simpa [upd] using k4⟩
omit m0 m1 m3 m4
theorem Phase.laid (h : Phase c10 c43 v P1 P2 U0 U1 U3 U4 d x0 x1 x2 x3 x4 x5 y5 y6 w) (hd : d 8 = false) (d2 : d 2 = true) (d5 : d 5 = true) (d6 : d 6 = true) (d7 : d 7 = true) : ∃ g5 g6 cs ds, x2 = .agg cs ∧ x5 = .agg ds ∧ y5 = .pointer (some ⟨g5, 0, none⟩) ∧ y6 = .pointer (some ⟨g6, 0, none⟩) ∧ ZB w g5 ∧ Lies w (fun _ => True) P1 cs ∧ Phase c10 c43 v P1 P2 U0 U1 U3 U4 (upd d 8) x0 x1 x2 x3 x4 x5 y5 y6 (setRow w g5 0 cs.toList) := by
  rcases h with ⟨h8, h9, a0, a1, a3, a4, a5, a2, hp, k1, k4⟩ | ⟨h, _⟩ | ⟨h, _⟩
  · rw [d2, d5, d6, d7] at hp
    obtain ⟨g5, g6, cs, ds, rfl, rfl, rfl, rfl, hr⟩ := hp.ready
    refine ⟨g5, g6, cs, ds, rfl, rfl, rfl, rfl, hr.z5, hr.one.weaken fun _ _ => trivial, .inr (.inl ⟨fun k hk => ?_, by simpa [upd] using h9, g5, g6, cs, ds, rfl, rfl, rfl, hr.mid⟩)⟩
    obtain ⟨e3, e4⟩ := a5 d5
    obtain ⟨e0, e1⟩ := a2 d2
    rcases (by omega : k = 0 ∨ k = 1 ∨ k = 2 ∨ k = 3 ∨ k = 4 ∨ k = 5 ∨ k = 6 ∨ k = 7 ∨ k = 8) with rfl | rfl | rfl | rfl | rfl | rfl | rfl | rfl | rfl <;> simp [upd, *]
  · rw [h 8 (by decide)] at hd; cases hd
  · rw [h 8 (by decide)] at hd; cases hd
theorem Phase.both (h : Phase c10 c43 v P1 P2 U0 U1 U3 U4 d x0 x1 x2 x3 x4 x5 y5 y6 w) (hd : d 9 = false) (d8 : d 8 = true) : ∃ g6 ds, x5 = .agg ds ∧ y6 = .pointer (some ⟨g6, 0, none⟩) ∧ ZB w g6 ∧ Lies w (fun _ => True) P2 ds ∧ Phase c10 c43 v P1 P2 U0 U1 U3 U4 (upd d 9) x0 x1 x2 x3 x4 x5 y5 y6 (setRow w g6 0 ds.toList) := by
  rcases h with ⟨h8, _⟩ | ⟨h, h9, g5, g6, cs, ds, rfl, rfl, rfl, hm⟩ | ⟨h, _⟩
  · rw [h8] at d8; cases d8
  · refine ⟨g6, ds, rfl, rfl, hm.z6, hm.two.weaken fun _ _ => trivial, .inr (.inr ⟨fun k hk => ?_, g5, g6, cs, ds, rfl, rfl, hm.fin⟩)⟩
    by_cases e : k = 9
    · simp [upd, e]
    · simp [upd, e, h k (by omega)]
  · rw [h 9 (by decide)] at hd; cases hd
theorem Phase.last (h : Phase c10 c43 v P1 P2 U0 U1 U3 U4 d x0 x1 x2 x3 x4 x5 y5 y6 w) (hd : d 9 = true) : ∃ g5 g6 cs ds, y5 = .pointer (some ⟨g5, 0, none⟩) ∧ y6 = .pointer (some ⟨g6, 0, none⟩) ∧ Fin v P1 P2 g5 g6 cs ds w := by
  rcases h with ⟨_, h9, _⟩ | ⟨_, h9, _⟩ | ⟨_, h⟩
  · rw [h9] at hd; cases hd
  · rw [h9] at hd; cases hd
  · exact h
end

end Go.Proofs.YthjdeckdklhphaaGreatDoor
