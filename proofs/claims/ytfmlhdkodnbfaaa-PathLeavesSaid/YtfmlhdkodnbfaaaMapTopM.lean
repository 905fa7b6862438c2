/-
  Package tree's Map, of few pairs.
-/
import Derived.Test.YtfmlhdkodnbfaaaMap
import Derived.Test.YtfmlhdkodnbfaaaCompareM
set_option linter.unusedVariables false
set_option linter.unusedSimpArgs false
namespace Go.Proofs.Ytfmlhdkodnbfaaa
open Go.RowKit Go.Sort

theorem qlist_lies {w : World} {R : Nat → Prop} {ps : List (ByteArray × T)} {a : Option Addr} {cap : Nat} {cm : Nat → Array Value} (h : SliceP w R ps a cap cm) {q : Q} (hq : q ∈ qlist ps cm) : Lies w R q.2.1 q.2.2 ∧ q.1.size ≤ 140737488355328 := by
  obtain ⟨i, hi, rfl⟩ := List.getElem_of_mem hq
  have hi' : i < ps.length := by simpa [qlist] using hi
  rw [qlist_get]
  exact ⟨h.each i hi', h.keys i hi'⟩

theorem wf5 : (Lit.int .i64 5).wf = true := by decide
theorem wf0 : (Lit.int .i64 0).wf = true := by decide
theorem empty_size : (⟨#[]⟩ : ByteArray).size ≤ 140737488355328 := Nat.zero_le _
theorem empty_sliceV (w : World) (R : Nat → Prop) : SliceV w R [] none 0 (fun _ => #[]) := ⟨⟨by simp, by simp, fun _ => rfl, fun hp => absurd hp (by simp), by omega⟩, fun i hi => absurd hi (by simp), fun i hi => absurd hi (by simp)⟩

end Go.Proofs.Ytfmlhdkodnbfaaa

/-
  That the statements look at the program at all: their closed run.
-/
set_option linter.unusedVariables false
set_option linter.unusedSimpArgs false
namespace Go.Proofs.Ytfmlhdkodnbfaaa
open Go.RowKit Go.Sort

def T.int (n : Int) : T := .mk 2 false n ⟨#[]⟩ [] []

/-- A result that lies in a variable as it is. -/
theorem ret_read {P : Program} {fn : Func} {R : Ending → World → Prop} {a : Act} {w : World} {p : Tmp} {ty : TypeId} {d : TypeDesc} (g : Nat) (cs : Array Value) (h : fn.results = #[.cell p ty]) (hdef : a.defers = []) (hp : a.tmps.getD p undef = .pointer (some ⟨g, 0, none⟩))
    (hd : (match d with | .struct _ | .array _ _ => true | _ => false) = true) (hu : P.underlying ty = some d) (hi : (P.info? ty).map (·.size) = some cs.size) (hc : ∀ i (h : i < cs.size), w.cell? ⟨g, i, none⟩ = some cs[i])
    (hR : R (.returned (.agg cs)) w) : bodyPost P fn R .ret a w := bodyPost_ret (results_cells h _ _ g cs d hd hu hp hc hi) hdef hR

theorem tInt_any (n : Int) (w : World) : Calls Try.prog 20 #[.int .i64 n] w fun e w' => e = .returned (.agg #[.int .i64 2, .bool false, .int .i64 n, .string ⟨#[]⟩, .slice none 0 0, .slice none 0 0]) ∧ Below w.heap.size w w' := by
  go_enter Try.func20, Try.ntmps20
  go_wp2_with fail
  obtain ⟨dd, hu, hdd⟩ := Try.structV
  refine ret_read w.heap.size #[.int .i64 2, .bool false, .int .i64 n, .string ⟨#[]⟩, .slice none 0 0, .slice none 0 0] Try.results20 rfl rfl hdd hu Try.sizeV (fun i hi => by rw [World.cell?_alloc_new]; exact Array.getElem?_eq_getElem hi) ?_
  exact ⟨rfl, (Below.refl _ _).alloc (Nat.le_refl _) _⟩

theorem empty_sliceP (w : World) (R : Nat → Prop) : SliceP w R [] none 0 (fun _ => #[]) := ⟨⟨by simp, by simp, fun _ => rfl, fun hp => absurd hp (by simp), by omega⟩, fun i hi => absurd hi (by simp), fun i hi => absurd hi (by simp), fun i hi => absurd hi (by simp)⟩
theorem wf2 : (Lit.int .i64 2).wf = true := by decide
theorem int_lies (w : World) (R : Nat → Prop) (n : Int) (hn : (Lit.int .i64 n).wf = true) : Lies w R (T.int n) #[.int .i64 2, .bool false, .int .i64 n, .string ⟨#[]⟩, .slice none 0 0, .slice none 0 0] :=
  Lies.of_slices wf2 hn empty_size (empty_sliceV w R) (empty_sliceP w R)

def kA : ByteArray := ⟨#[97]⟩
def kB : ByteArray := ⟨#[98]⟩
def three : List (ByteArray × T) := [(kB, T.int 1), (kA, T.int 2), (kB, T.int 3)]
def intCells (n : Int) : Array Value := #[.int .i64 2, .bool false, .int .i64 n, .string ⟨#[]⟩, .slice none 0 0, .slice none 0 0]
def threeCells : Array Value := #[.string ⟨#[98]⟩, .int .i64 2, .bool false, .int .i64 1, .string ⟨#[]⟩, .slice none 0 0, .slice none 0 0, .string ⟨#[97]⟩, .int .i64 2, .bool false, .int .i64 2, .string ⟨#[]⟩, .slice none 0 0, .slice none 0 0, .string ⟨#[98]⟩, .int .i64 2, .bool false, .int .i64 3, .string ⟨#[]⟩, .slice none 0 0, .slice none 0 0]

theorem three_cell (w : World) (t : TypeId) (j : Nat) (hj : j < 21) : (w.alloc (.cells threeCells t)).cell? ⟨w.heap.size, j, none⟩ = some (threeCells[j]'hj) := by
  rw [World.cell?_alloc_new]; exact Array.getElem?_eq_getElem hj

theorem three_slice (w : World) : SliceP (w.alloc (.cells threeCells 51)) (fun _ => True) three (some ⟨w.heap.size, 0, none⟩) 3 (fun i => intCells (i + 1)) := by
  refine ⟨⟨by decide, by simp [three], by simp, fun _ => ⟨_, _, rfl, trivial⟩, by omega⟩, fun i hi bl ol e => ?_, fun i hi => ?_, fun i hi => ?_⟩
  · simp only [Option.some.injEq, Addr.mk.injEq, and_true] at e
    obtain ⟨rfl, rfl⟩ := e
    have hi3 : i < 3 := hi
    intro j hj
    have hj7 : j < 7 := by simpa [intCells] using hj
    rw [Nat.zero_add, three_cell w _ (i * 7 + j) (by omega)]
    rcases (by omega : i = 0 ∨ i = 1 ∨ i = 2) with rfl | rfl | rfl <;> rcases (by omega : j = 0 ∨ j = 1 ∨ j = 2 ∨ j = 3 ∨ j = 4 ∨ j = 5 ∨ j = 6) with rfl | rfl | rfl | rfl | rfl | rfl | rfl <;> rfl
  · have hi3 : i < 3 := hi
    rcases (by omega : i = 0 ∨ i = 1 ∨ i = 2) with rfl | rfl | rfl <;> exact (by decide : (1 : Nat) ≤ 140737488355328)
  · have hi3 : i < 3 := hi
    rcases (by omega : i = 0 ∨ i = 1 ∨ i = 2) with rfl | rfl | rfl
    · exact int_lies _ _ 1 (by decide)
    · exact int_lies _ _ 2 (by decide)
    · exact int_lies _ _ 3 (by decide)

theorem three_kept : keepTo (·.1) (insN (·.1) three.length three) three.length = [(kA, T.int 2), (kB, T.int 3)] := by kernel_rfl
theorem three_map : T.mkMap three = .mk 5 false 0 ⟨#[]⟩ [] [(kA, T.int 2), (kB, T.int 3)] := by unfold T.mkMap; rw [three_kept]
theorem get_a : (T.mk 5 false 0 ⟨#[]⟩ [] [(kA, T.int 2), (kB, T.int 3)]).get kA = some (T.int 2) := by kernel_rfl
theorem get_b : (T.mk 5 false 0 ⟨#[]⟩ [] [(kA, T.int 2), (kB, T.int 3)]).get kB = some (T.int 3) := by kernel_rfl

end Go.Proofs.Ytfmlhdkodnbfaaa

/-
  Values stand in one order.
-/
set_option linter.unusedVariables false
set_option linter.unusedSimpArgs false
namespace Go.Proofs.Ytfmlhdkodnbfaaa
open Go.RowKit

/-- x stands well in the order f. -/
structure OrdAt {α : Type} (f : α → α → Int) (x : α) : Prop where
  refl : f x x = 0
  anti : ∀ y, f y x = -(f x y)
  same : ∀ y z, f x y = 0 → f x z = f y z
  less : ∀ y z, f x y < 0 → f y z ≤ 0 → f x z < 0

theorem OrdAt.le {α : Type} {f : α → α → Int} {x : α} (h : OrdAt f x) (y z : α) (h1 : f x y ≤ 0) (h2 : f y z ≤ 0) : f x z ≤ 0 := by
  by_cases h0 : f x y = 0
  · rw [h.same y z h0]; exact h2
  · have := h.less y z (by omega) h2; omega

theorem ord_cmpI (a : Int) : OrdAt cmpI a := by
  refine ⟨?_, fun y => ?_, fun y z h => ?_, fun y z h k => ?_⟩
  · unfold cmpI; split <;> (try split) <;> omega
  · unfold cmpI; repeat' split
    all_goals omega
  · unfold cmpI at h
    split at h
    · omega
    · split at h
      · omega
      · have : a = y := by omega
        rw [this]
  · unfold cmpI at *
    repeat' split at *
    all_goals first | omega | (split <;> omega)
theorem cmpI_zero {a b : Int} (h : cmpI a b = 0) : a = b := by
  unfold cmpI at h
  split at h
  · omega
  · split at h <;> omega

theorem ord_cmpB (a : Bool) : OrdAt cmpB a := by
  refine ⟨?_, fun y => ?_, fun y z h => ?_, fun y z h k => ?_⟩
  · cases a <;> decide
  · cases a <;> cases y <;> decide
  · cases a <;> cases y <;> cases z <;> revert h <;> decide
  · cases a <;> cases y <;> cases z <;> revert h k <;> decide

section
variable {α : Type} (f : α → α → Int)
theorem cmpG_cons (x y : α) (r q : List α) : cmpG f (x :: r) (y :: q) = if f x y ≠ 0 then f x y else cmpG f r q := by rw [cmpG]
theorem ord_cmpG : ∀ (xs : List α), (∀ x ∈ xs, OrdAt f x) → OrdAt (cmpG f) xs
  | [], _ => ⟨by simp [cmpG], fun y => by cases y <;> simp [cmpG], fun y z h => by cases y with
      | nil => rfl
      | cons a b => simp [cmpG] at h, fun y z h k => by
        cases y with
        | nil => simp [cmpG] at h
        | cons a b => cases z with
          | nil => simp [cmpG] at k
          | cons c d => simp [cmpG]⟩
  | x :: r, H => by
    have hx := H x (by simp)
    have hr := ord_cmpG r (fun y hy => H y (by simp [hy]))
    refine ⟨?_, fun Y => ?_, fun Y Z h => ?_, fun Y Z h k => ?_⟩
    · rw [cmpG_cons, if_neg (by simp [hx.refl])]; exact hr.refl
    · cases Y with
      | nil => simp [cmpG]
      | cons y q =>
        have := hx.anti y
        rw [cmpG_cons, cmpG_cons]
        by_cases h0 : f x y = 0
        · rw [if_neg (by omega), if_neg (by omega)]; exact hr.anti q
        · rw [if_pos (by omega), if_pos h0]; exact this
    · cases Y with
      | nil => simp [cmpG] at h
      | cons y q =>
        rw [cmpG_cons] at h
        by_cases h0 : f x y = 0
        · rw [if_neg (by omega)] at h
          cases Z with
          | nil => simp [cmpG]
          | cons z s => rw [cmpG_cons, cmpG_cons, hx.same y z h0, hr.same q s h]
        · rw [if_pos h0] at h; omega
    · cases Y with
      | nil => simp [cmpG] at h
      | cons y q =>
        cases Z with
        | nil => simp [cmpG] at k
        | cons z s =>
          rw [cmpG_cons] at h k ⊢
          by_cases h0 : f x y = 0
          · rw [if_neg (by omega)] at h
            rw [hx.same y z h0]
            by_cases h1 : f y z = 0
            · rw [if_neg (by omega)] at k
              rw [if_neg (by omega)]
              exact hr.less q s h k
            · rw [if_pos h1] at k
              rw [if_pos h1]
              omega
          · rw [if_pos h0] at h
            have hyz : f y z ≤ 0 := by
              by_cases h1 : f y z = 0
              · omega
              · rw [if_pos h1] at k; exact k
            have := hx.less y z h hyz
            rw [if_pos (by omega)]
            exact this
end

/-- Bytes, one by one. -/
def cmpU (a b : UInt8) : Int := cmpI a.toNat b.toNat
theorem compareBytes_G : ∀ a b : List UInt8, Lib.compareBytes a b = cmpG cmpU a b
  | [], [] => rfl
  | [], _ :: _ => rfl
  | _ :: _, [] => rfl
  | a :: r, b :: q => by
    rw [Lib.compareBytes, cmpG_cons, compareBytes_G r q]
    unfold cmpU cmpI
    simp only [UInt8.lt_iff_toNat_lt]
    by_cases h1 : a.toNat < b.toNat
    · rw [if_pos h1, if_pos (by rw [if_pos (by omega)]; omega), if_pos (by omega)]
    · rw [if_neg h1]
      by_cases h2 : b.toNat < a.toNat
      · rw [if_pos h2, if_pos (by rw [if_neg (by omega), if_pos (by omega)]; omega), if_neg (by omega), if_pos (by omega)]
      · rw [if_neg h2, if_neg (by rw [if_neg (by omega), if_neg (by omega)]; omega)]
theorem ord_cmpU (a : UInt8) : OrdAt cmpU a :=
  have h := ord_cmpI (a.toNat : Int)
  ⟨h.refl, fun y => h.anti _, fun y z => h.same _ _, fun y z => h.less _ _⟩
theorem ord_cmpS (a : ByteArray) : OrdAt cmpS a := by
  have h := ord_cmpG cmpU a.data.toList (fun x _ => ord_cmpU x)
  have e : ∀ x y : ByteArray, cmpS x y = cmpG cmpU x.data.toList y.data.toList := fun x y => compareBytes_G _ _
  exact ⟨by rw [e]; exact h.refl, fun y => by rw [e, e]; exact h.anti _, fun y z k => by rw [e] at *; rw [e]; exact h.same _ _ k, fun y z k l => by rw [e] at *; exact h.less _ _ k l⟩
theorem cmpU_zero {a b : UInt8} (h : cmpU a b = 0) : a = b := by
  have := cmpI_zero h
  exact UInt8.toNat_inj.1 (by omega)
theorem cmpG_zero {α : Type} {f : α → α → Int} (hf : ∀ a b, f a b = 0 → a = b) : ∀ xs ys : List α, cmpG f xs ys = 0 → xs = ys
  | [], [], _ => rfl
  | [], _ :: _, h => by simp [cmpG] at h
  | _ :: _, [], h => by simp [cmpG] at h
  | x :: r, y :: q, h => by
    rw [cmpG_cons] at h
    by_cases h0 : f x y = 0
    · rw [if_neg (by omega)] at h
      rw [hf x y h0, cmpG_zero hf r q h]
    · rw [if_pos h0] at h; omega
theorem cmpS_zero {a b : ByteArray} (h : cmpS a b = 0) : a = b := by
  unfold cmpS at h
  rw [compareBytes_G] at h
  have := cmpG_zero (fun _ _ => cmpU_zero) _ _ h
  exact ByteArray.ext (Array.toList_inj.1 this)

theorem ord_cmpP (p : ByteArray × T) (h : OrdAt T.cmp p.2) : OrdAt cmpP p := by
  have hs := ord_cmpS p.1
  refine ⟨?_, fun y => ?_, fun y z k => ?_, fun y z k l => ?_⟩
  · unfold cmpP; rw [if_neg (by simp)]; exact h.refl
  · unfold cmpP
    by_cases e : p.1 = y.1
    · rw [if_neg (by simp [e]), if_neg (by simp [e])]; exact h.anti _
    · rw [if_pos (fun e' => e e'.symm), if_pos e]; exact hs.anti _
  · unfold cmpP at k
    by_cases e : p.1 = y.1
    · rw [if_neg (by simp [e])] at k
      unfold cmpP
      rw [e, h.same _ z.2 k]
    · rw [if_pos e] at k
      exact absurd (cmpS_zero k) e
  · unfold cmpP at k l ⊢
    by_cases e : p.1 = y.1
    · rw [if_neg (by simp [e])] at k
      rw [e]
      by_cases e2 : y.1 = z.1
      · rw [if_neg (by simp [e2])] at l ⊢
        exact h.less _ _ k l
      · rw [if_pos e2] at l ⊢
        have : cmpS y.1 z.1 ≠ 0 := fun h0 => e2 (cmpS_zero h0)
        omega
    · rw [if_pos e] at k
      by_cases e2 : y.1 = z.1
      · rw [← e2, if_pos e]; exact k
      · rw [if_pos e2] at l
        have := hs.less _ _ k l
        have hne : p.1 ≠ z.1 := fun h0 => by rw [h0, (ord_cmpS z.1).refl] at this; omega
        rw [if_pos hne]
        exact this

def T.bo : T → Bool | .mk _ b _ _ _ _ => b
def T.nu : T → Int | .mk _ _ n _ _ _ => n
def T.st : T → ByteArray | .mk _ _ _ s _ _ => s
def T.li : T → List T | .mk _ _ _ _ l _ => l
def T.ma : T → List (ByteArray × T) | .mk _ _ _ _ _ m => m

/-- The content of two values of one kind. -/
def cont (k : Int) (t u : T) : Int :=
  if k = 1 then cmpB t.bo u.bo else if k = 2 then cmpI t.nu u.nu else if k = 3 then cmpS t.st u.st else if k = 4 then cmpG T.cmp t.li u.li else if k = 5 then cmpG cmpP t.ma u.ma else 0
theorem cmp_cont (t u : T) : T.cmp t u = if t.kind ≠ u.kind then cmpI t.kind u.kind else cont t.kind t u := by
  obtain ⟨k, b, n, s, l, m⟩ := t
  obtain ⟨k2, b2, n2, s2, l2, m2⟩ := u
  rw [T.cmp_mk, cmpL_G, cmpM_G]
  rfl
theorem OrdAt.pull {α β : Type} {f : β → β → Int} (g : α → β) {x : α} (h : OrdAt f (g x)) : OrdAt (fun a b => f (g a) (g b)) x :=
  ⟨h.refl, fun y => h.anti _, fun y z => h.same _ _, fun y z => h.less _ _⟩
theorem ord_cont (k : Int) (t : T) (hl : ∀ x ∈ t.li, OrdAt T.cmp x) (hm : ∀ q ∈ t.ma, OrdAt T.cmp q.2) : OrdAt (cont k) t := by
  by_cases h1 : k = 1
  · have e : cont k = fun t u => cmpB t.bo u.bo := by funext t u; unfold cont; rw [if_pos h1]
    rw [e]; exact (ord_cmpB _).pull T.bo
  by_cases h2 : k = 2
  · have e : cont k = fun t u => cmpI t.nu u.nu := by funext t u; unfold cont; rw [if_neg h1, if_pos h2]
    rw [e]; exact (ord_cmpI _).pull T.nu
  by_cases h3 : k = 3
  · have e : cont k = fun t u => cmpS t.st u.st := by funext t u; unfold cont; rw [if_neg h1, if_neg h2, if_pos h3]
    rw [e]; exact (ord_cmpS _).pull T.st
  by_cases h4 : k = 4
  · have e : cont k = fun t u => cmpG T.cmp t.li u.li := by funext t u; unfold cont; rw [if_neg h1, if_neg h2, if_neg h3, if_pos h4]
    rw [e]; exact (ord_cmpG T.cmp _ hl).pull T.li
  by_cases h5 : k = 5
  · have e : cont k = fun t u => cmpG cmpP t.ma u.ma := by funext t u; unfold cont; rw [if_neg h1, if_neg h2, if_neg h3, if_neg h4, if_pos h5]
    rw [e]; exact (ord_cmpG cmpP _ (fun q hq => ord_cmpP q (hm q hq))).pull T.ma
  · have e : cont k = fun t u => 0 := by funext t u; unfold cont; rw [if_neg h1, if_neg h2, if_neg h3, if_neg h4, if_neg h5]
    rw [e]; exact ⟨rfl, fun _ => rfl, fun _ _ _ => rfl, fun _ _ h _ => by omega⟩

theorem T.ord (t : T) : OrdAt T.cmp t := by
  induction t using T.ind with
  | h k b n s l m hl hm =>
    have hc := fun k' => ord_cont k' (.mk k b n s l m) hl hm
    generalize T.mk k b n s l m = t at hc
    have hK := ord_cmpI t.kind
    refine ⟨?_, fun y => ?_, fun y z h => ?_, fun y z h g => ?_⟩
    · rw [cmp_cont, if_neg (by simp)]; exact (hc _).refl
    · rw [cmp_cont, cmp_cont]
      by_cases e : t.kind = y.kind
      · rw [if_neg (by simp [e]), if_neg (by simp [e]), ← e]; exact (hc _).anti _
      · rw [if_pos (fun h => e h.symm), if_pos e]; exact hK.anti _
    · rw [cmp_cont] at h
      rw [cmp_cont t z, cmp_cont y z]
      by_cases e : t.kind = y.kind
      · rw [if_neg (by simp [e])] at h
        rw [← e]
        by_cases e2 : t.kind = z.kind
        · rw [if_neg (by simp [e2]), if_neg (by simp [e2])]; exact (hc _).same _ _ h
        · rw [if_pos e2, if_pos e2]
      · rw [if_pos e] at h
        exact absurd (cmpI_zero h) e
    · rw [cmp_cont] at h g
      rw [cmp_cont]
      by_cases e : t.kind = y.kind
      · rw [if_neg (by simp [e])] at h
        rw [← e] at g
        by_cases e2 : t.kind = z.kind
        · rw [if_neg (by simp [e2])] at g
          rw [if_neg (by simp [e2])]
          exact (hc _).less _ _ h g
        · rw [if_pos e2] at g
          rw [if_pos e2]
          have : cmpI t.kind z.kind ≠ 0 := fun h0 => e2 (cmpI_zero h0)
          omega
      · rw [if_pos e] at h
        by_cases e2 : y.kind = z.kind
        · rw [← e2, if_pos e]; exact h
        · rw [if_pos e2] at g
          have := hK.less _ _ h g
          have hne : t.kind ≠ z.kind := fun h0 => by rw [h0, (ord_cmpI z.kind).refl] at this; omega
          rw [if_pos hne]
          exact this

theorem cmpI_range (a b : Int) : -1 ≤ cmpI a b ∧ cmpI a b ≤ 1 := by unfold cmpI; split <;> (try split) <;> omega
theorem cmpG_range {α : Type} (f : α → α → Int) : ∀ (xs ys : List α), (∀ x ∈ xs, ∀ y, -1 ≤ f x y ∧ f x y ≤ 1) → -1 ≤ cmpG f xs ys ∧ cmpG f xs ys ≤ 1
  | [], [], _ => by simp [cmpG]
  | [], _ :: _, _ => by simp [cmpG]
  | _ :: _, [], _ => by simp [cmpG]
  | x :: r, y :: q, h => by
    have h1 := h x (by simp) y
    have h2 := cmpG_range f r q (fun z hz => h z (by simp [hz]))
    rw [cmpG_cons]
    split
    · exact h1
    · exact h2
theorem cmpS_range (a b : ByteArray) : -1 ≤ cmpS a b ∧ cmpS a b ≤ 1 := by
  unfold cmpS; rw [compareBytes_G]; exact cmpG_range _ _ _ (fun x _ y => cmpI_range _ _)
theorem T.cmp_range (t : T) : ∀ u, -1 ≤ T.cmp t u ∧ T.cmp t u ≤ 1 := by
  induction t using T.ind with
  | h k b n s l m hl hm =>
    intro u
    rw [cmp_cont]
    split
    · exact cmpI_range _ _
    · unfold cont
      split
      · unfold cmpB; split <;> (try split) <;> omega
      split
      · exact cmpI_range _ _
      split
      · exact cmpS_range _ _
      split
      · exact cmpG_range _ _ _ hl
      split
      · refine cmpG_range _ _ _ (fun x hx y => ?_)
        unfold cmpP
        split
        · exact cmpS_range _ _
        · exact hm x hx _
      · omega
end Go.Proofs.Ytfmlhdkodnbfaaa
