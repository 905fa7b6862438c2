/-
  Values stand in one order.
-/
import Derived.Test.YtbmlmcoepmbelaaDoorOpenM
set_option linter.unusedVariables false
set_option linter.unusedSimpArgs false
namespace Go.Proofs.YtbmlmcoepmbelaaDoor
open Go.RowKit

/-- x stands well in the order f. -/
structure OrdAt {α : Type} (f : α → α → Int) (x : α) : Prop where
  refl : f x x = 0
  anti : ∀ y, f y x = -(f x y)
  same : ∀ y z, f x y = 0 → f x z = f y z
  less : ∀ y z, f x y < 0 → f y z ≤ 0 → f x z < 0

theorem OrdAt.le {α : Type} {f : α → α → Int} {x : α} (h : OrdAt f x) (y z : α) (h1 : f x y ≤ 0) (h2 : f y z ≤ 0) : f x z ≤ 0 := by
  by_cases h0 : f x y = 0
  · rw [h.same y z h0]; exact h2
  · have := h.less y z (by omega) h2; omega

theorem ord_cmpI (a : Int) : OrdAt cmpI a := by
  refine ⟨?_, fun y => ?_, fun y z h => ?_, fun y z h k => ?_⟩
  · unfold cmpI; split <;> (try split) <;> omega
  · unfold cmpI; repeat' split
    all_goals omega
  · unfold cmpI at h
    split at h
    · omega
    · split at h
      · omega
      · have : a = y := by omega
        rw [this]
  · unfold cmpI at *
    repeat' split at *
    all_goals first | omega | (split <;> omega)
theorem cmpI_zero {a b : Int} (h : cmpI a b = 0) : a = b := by
  unfold cmpI at h
  split at h
  · omega
  · split at h <;> omega

theorem ord_cmpB (a : Bool) : OrdAt cmpB a := by
  refine ⟨?_, fun y => ?_, fun y z h => ?_, fun y z h k => ?_⟩
  · cases a <;> decide
  · cases a <;> cases y <;> decide
  · cases a <;> cases y <;> cases z <;> revert h <;> decide
  · cases a <;> cases y <;> cases z <;> revert h k <;> decide

section
variable {α : Type} (f : α → α → Int)
theorem cmpG_cons (x y : α) (r q : List α) : cmpG f (x :: r) (y :: q) = if f x y ≠ 0 then f x y else cmpG f r q := by rw [cmpG]
theorem ord_cmpG : ∀ (xs : List α), (∀ x ∈ xs, OrdAt f x) → OrdAt (cmpG f) xs
  | [], _ => ⟨by simp [cmpG], fun y => by cases y <;> simp [cmpG], fun y z h => by cases y with
      | nil => rfl
      | cons a b => simp [cmpG] at h, fun y z h k => by
        cases y with
        | nil => simp [cmpG] at h
        | cons a b => cases z with
          | nil => simp [cmpG] at k
          | cons c d => simp [cmpG]⟩
  | x :: r, H => by
    have hx := H x (by simp)
    have hr := ord_cmpG r (fun y hy => H y (by simp [hy]))
    refine ⟨?_, fun Y => ?_, fun Y Z h => ?_, fun Y Z h k => ?_⟩
    · rw [cmpG_cons, if_neg (by simp [hx.refl])]; exact hr.refl
    · cases Y with
      | nil => simp [cmpG]
      | cons y q =>
        have := hx.anti y
        rw [cmpG_cons, cmpG_cons]
        by_cases h0 : f x y = 0
        · rw [if_neg (by omega), if_neg (by omega)]; exact hr.anti q
        · rw [if_pos (by omega), if_pos h0]; exact this
    · cases Y with
      | nil => simp [cmpG] at h
      | cons y q =>
        rw [cmpG_cons] at h
        by_cases h0 : f x y = 0
        · rw [if_neg (by omega)] at h
          cases Z with
          | nil => simp [cmpG]
          | cons z s => rw [cmpG_cons, cmpG_cons, hx.same y z h0, hr.same q s h]
        · rw [if_pos h0] at h; omega
    · cases Y with
      | nil => simp [cmpG] at h
      | cons y q =>
        cases Z with
        | nil => simp [cmpG] at k
        | cons z s =>
          rw [cmpG_cons] at h k ⊢
          by_cases h0 : f x y = 0
          · rw [if_neg (by omega)] at h
            rw [hx.same y z h0]
            by_cases h1 : f y z = 0
            · rw [if_neg (by omega)] at k
              rw [if_neg (by omega)]
              exact hr.less q s h k
            · rw [if_pos h1] at k
              rw [if_pos h1]
              omega
          · rw [if_pos h0] at h
            have hyz : f y z ≤ 0 := by
              by_cases h1 : f y z = 0
              · omega
              · rw [if_pos h1] at k; exact k
            have := hx.less y z h hyz
            rw [if_pos (by omega)]
            exact this
end

/-- Bytes, one by one. -/
def cmpU (a b : UInt8) : Int := cmpI a.toNat b.toNat
theorem compareBytes_G : ∀ a b : List UInt8, Lib.compareBytes a b = cmpG cmpU a b
  | [], [] => rfl
  | [], _ :: _ => rfl
  | _ :: _, [] => rfl
  | a :: r, b :: q => by
    rw [Lib.compareBytes, cmpG_cons, compareBytes_G r q]
    unfold cmpU cmpI
    simp only [UInt8.lt_iff_toNat_lt]
    by_cases h1 : a.toNat < b.toNat
    · rw [if_pos h1, if_pos (by rw [if_pos (by omega)]; omega), if_pos (by omega)]
    · rw [if_neg h1]
      by_cases h2 : b.toNat < a.toNat
      · rw [if_pos h2, if_pos (by rw [if_neg (by omega), if_pos (by omega)]; omega), if_neg (by omega), if_pos (by omega)]
      · rw [if_neg h2, if_neg (by rw [if_neg (by omega), if_neg (by omega)]; omega)]
theorem ord_cmpU (a : UInt8) : OrdAt cmpU a :=
  have h := ord_cmpI (a.toNat : Int)
  ⟨h.refl, fun y => h.anti _, fun y z => h.same _ _, fun y z => h.less _ _⟩
theorem ord_cmpS (a : ByteArray) : OrdAt cmpS a := by
  have h := ord_cmpG cmpU a.data.toList (fun x _ => ord_cmpU x)
  have e : ∀ x y : ByteArray, cmpS x y = cmpG cmpU x.data.toList y.data.toList := fun x y => compareBytes_G _ _
  exact ⟨by rw [e]; exact h.refl, fun y => by rw [e, e]; exact h.anti _, fun y z k => by rw [e] at *; rw [e]; exact h.same _ _ k, fun y z k l => by rw [e] at *; exact h.less _ _ k l⟩
theorem cmpU_zero {a b : UInt8} (h : cmpU a b = 0) : a = b := by
  have := cmpI_zero h
  exact UInt8.toNat_inj.1 (by omega)
theorem cmpG_zero {α : Type} {f : α → α → Int} (hf : ∀ a b, f a b = 0 → a = b) : ∀ xs ys : List α, cmpG f xs ys = 0 → xs = ys
  | [], [], _ => rfl
  | [], _ :: _, h => by simp [cmpG] at h
  | _ :: _, [], h => by simp [cmpG] at h
  | x :: r, y :: q, h => by
    rw [cmpG_cons] at h
    by_cases h0 : f x y = 0
    · rw [if_neg (by omega)] at h
      rw [hf x y h0, cmpG_zero hf r q h]
    · rw [if_pos h0] at h; omega
theorem cmpS_zero {a b : ByteArray} (h : cmpS a b = 0) : a = b := by
  unfold cmpS at h
  rw [compareBytes_G] at h
  have := cmpG_zero (fun _ _ => cmpU_zero) _ _ h
  exact ByteArray.ext (Array.toList_inj.1 this)

theorem ord_cmpP (p : ByteArray × T) (h : OrdAt T.cmp p.2) : OrdAt cmpP p := by
  have hs := ord_cmpS p.1
  refine ⟨?_, fun y => ?_, fun y z k => ?_, fun y z k l => ?_⟩
  · unfold cmpP; rw [if_neg (by simp)]; exact h.refl
  · unfold cmpP
    by_cases e : p.1 = y.1
    · rw [if_neg (by simp [e]), if_neg (by simp [e])]; exact h.anti _
    · rw [if_pos (fun e' => e e'.symm), if_pos e]; exact hs.anti _
  · unfold cmpP at k
    by_cases e : p.1 = y.1
    · rw [if_neg (by simp [e])] at k
      unfold cmpP
      rw [e, h.same _ z.2 k]
    · rw [if_pos e] at k
      exact absurd (cmpS_zero k) e
  · unfold cmpP at k l ⊢
    by_cases e : p.1 = y.1
    · rw [if_neg (by simp [e])] at k
      rw [e]
      by_cases e2 : y.1 = z.1
      · rw [if_neg (by simp [e2])] at l ⊢
        exact h.less _ _ k l
      · rw [if_pos e2] at l ⊢
        have : cmpS y.1 z.1 ≠ 0 := fun h0 => e2 (cmpS_zero h0)
        omega
    · rw [if_pos e] at k
      by_cases e2 : y.1 = z.1
      · rw [← e2, if_pos e]; exact k
      · rw [if_pos e2] at l
        have := hs.less _ _ k l
        have hne : p.1 ≠ z.1 := fun h0 => by rw [h0, (ord_cmpS z.1).refl] at this; omega
        rw [if_pos hne]
        exact this

def T.bo : T → Bool | .mk _ b _ _ _ _ => b
def T.nu : T → Int | .mk _ _ n _ _ _ => n
def T.st : T → ByteArray | .mk _ _ _ s _ _ => s
def T.li : T → List T | .mk _ _ _ _ l _ => l
def T.ma : T → List (ByteArray × T) | .mk _ _ _ _ _ m => m

/-- The content of two values of one kind. -/
def cont (k : Int) (t u : T) : Int :=
  if k = 1 then cmpB t.bo u.bo else if k = 2 then cmpI t.nu u.nu else if k = 3 then cmpS t.st u.st else if k = 4 then cmpG T.cmp t.li u.li else if k = 5 then cmpG cmpP t.ma u.ma else 0
theorem cmp_cont (t u : T) : T.cmp t u = if t.kind ≠ u.kind then cmpI t.kind u.kind else cont t.kind t u := by
  obtain ⟨k, b, n, s, l, m⟩ := t
  obtain ⟨k2, b2, n2, s2, l2, m2⟩ := u
  rw [T.cmp_mk, cmpL_G, cmpM_G]
  rfl
theorem OrdAt.pull {α β : Type} {f : β → β → Int} (g : α → β) {x : α} (h : OrdAt f (g x)) : OrdAt (fun a b => f (g a) (g b)) x :=
  ⟨h.refl, fun y => h.anti _, fun y z => h.same _ _, fun y z => h.less _ _⟩
theorem ord_cont (k : Int) (t : T) (hl : ∀ x ∈ t.li, OrdAt T.cmp x) (hm : ∀ q ∈ t.ma, OrdAt T.cmp q.2) : OrdAt (cont k) t := by
  by_cases h1 : k = 1
  · have e : cont k = fun t u => cmpB t.bo u.bo := by funext t u; unfold cont; rw [if_pos h1]
    rw [e]; exact (ord_cmpB _).pull T.bo
  by_cases h2 : k = 2
  · have e : cont k = fun t u => cmpI t.nu u.nu := by funext t u; unfold cont; rw [if_neg h1, if_pos h2]
    rw [e]; exact (ord_cmpI _).pull T.nu
  by_cases h3 : k = 3
  · have e : cont k = fun t u => cmpS t.st u.st := by funext t u; unfold cont; rw [if_neg h1, if_neg h2, if_pos h3]
    rw [e]; exact (ord_cmpS _).pull T.st
  by_cases h4 : k = 4
  · have e : cont k = fun t u => cmpG T.cmp t.li u.li := by funext t u; unfold cont; rw [if_neg h1, if_neg h2, if_neg h3, if_pos h4]
    rw [e]; exact (ord_cmpG T.cmp _ hl).pull T.li
  by_cases h5 : k = 5
  · have e : cont k = fun t u => cmpG cmpP t.ma u.ma := by funext t u; unfold cont; rw [if_neg h1, if_neg h2, if_neg h3, if_neg h4, if_pos h5]
    rw [e]; exact (ord_cmpG cmpP _ (fun q hq => ord_cmpP q (hm q hq))).pull T.ma
  · have e : cont k = fun t u => 0 := by funext t u; unfold cont; rw [if_neg h1, if_neg h2, if_neg h3, if_neg h4, if_neg h5]
    rw [e]; exact ⟨rfl, fun _ => rfl, fun _ _ _ => rfl, fun _ _ h _ => by omega⟩

theorem T.ord (t : T) : OrdAt T.cmp t := by
  induction t using T.ind with
  | h k b n s l m hl hm =>
    have hc := fun k' => ord_cont k' (.mk k b n s l m) hl hm
    generalize T.mk k b n s l m = t at hc
    have hK := ord_cmpI t.kind
    refine ⟨?_, fun y => ?_, fun y z h => ?_, fun y z h g => ?_⟩
    · rw [cmp_cont, if_neg (by simp)]; exact (hc _).refl
    · rw [cmp_cont, cmp_cont]
      by_cases e : t.kind = y.kind
      · rw [if_neg (by simp [e]), if_neg (by simp [e]), ← e]; exact (hc _).anti _
      · rw [if_pos (fun h => e h.symm), if_pos e]; exact hK.anti _
    · rw [cmp_cont] at h
      rw [cmp_cont t z, cmp_cont y z]
      by_cases e : t.kind = y.kind
      · rw [if_neg (by simp [e])] at h
        rw [← e]
        by_cases e2 : t.kind = z.kind
        · rw [if_neg (by simp [e2]), if_neg (by simp [e2])]; exact (hc _).same _ _ h
        · rw [if_pos e2, if_pos e2]
      · rw [if_pos e] at h
        exact absurd (cmpI_zero h) e
    · rw [cmp_cont] at h g
      rw [cmp_cont]
      by_cases e : t.kind = y.kind
      · rw [if_neg (by simp [e])] at h
        rw [← e] at g
        by_cases e2 : t.kind = z.kind
        · rw [if_neg (by simp [e2])] at g
          rw [if_neg (by simp [e2])]
          exact (hc _).less _ _ h g
        · rw [if_pos e2] at g
          rw [if_pos e2]
          have : cmpI t.kind z.kind ≠ 0 := fun h0 => e2 (cmpI_zero h0)
          omega
      · rw [if_pos e] at h
        by_cases e2 : y.kind = z.kind
        · rw [← e2, if_pos e]; exact h
        · rw [if_pos e2] at g
          have := hK.less _ _ h g
          have hne : t.kind ≠ z.kind := fun h0 => by rw [h0, (ord_cmpI z.kind).refl] at this; omega
          rw [if_pos hne]
          exact this

theorem cmpI_range (a b : Int) : -1 ≤ cmpI a b ∧ cmpI a b ≤ 1 := by unfold cmpI; split <;> (try split) <;> omega
theorem cmpG_range {α : Type} (f : α → α → Int) : ∀ (xs ys : List α), (∀ x ∈ xs, ∀ y, -1 ≤ f x y ∧ f x y ≤ 1) → -1 ≤ cmpG f xs ys ∧ cmpG f xs ys ≤ 1
  | [], [], _ => by simp [cmpG]
  | [], _ :: _, _ => by simp [cmpG]
  | _ :: _, [], _ => by simp [cmpG]
  | x :: r, y :: q, h => by
    have h1 := h x (by simp) y
    have h2 := cmpG_range f r q (fun z hz => h z (by simp [hz]))
    rw [cmpG_cons]
    split
    · exact h1
    · exact h2
theorem cmpS_range (a b : ByteArray) : -1 ≤ cmpS a b ∧ cmpS a b ≤ 1 := by
  unfold cmpS; rw [compareBytes_G]; exact cmpG_range _ _ _ (fun x _ y => cmpI_range _ _)
theorem T.cmp_range (t : T) : ∀ u, -1 ≤ T.cmp t u ∧ T.cmp t u ≤ 1 := by
  induction t using T.ind with
  | h k b n s l m hl hm =>
    intro u
    rw [cmp_cont]
    split
    · exact cmpI_range _ _
    · unfold cont
      split
      · unfold cmpB; split <;> (try split) <;> omega
      split
      · exact cmpI_range _ _
      split
      · exact cmpS_range _ _
      split
      · exact cmpG_range _ _ _ hl
      split
      · refine cmpG_range _ _ _ (fun x hx y => ?_)
        unfold cmpP
        split
        · exact cmpS_range _ _
        · exact hm x hx _
      · omega
end Go.Proofs.YtbmlmcoepmbelaaDoor
