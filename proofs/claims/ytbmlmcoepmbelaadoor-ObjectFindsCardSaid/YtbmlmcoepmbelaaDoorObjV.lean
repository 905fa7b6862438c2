/-
  Slices of objects in memory, and the order that they are sorted by.
-/
import Derived.Test.YtbmlmcoepmbelaaDoorObjE
import Derived.Test.YtbmlmcoepmbelaaDoorObjO
import Derived.Test.YtbmlmcoepmbelaaDoorSortShelf
set_option linter.unusedVariables false
set_option linter.unusedSimpArgs false
namespace Go.Proofs.YtbmlmcoepmbelaaDoor
open Go.RowKit Go.Sort

/-- An object's nine cells. -/
structure OC where
  k : ByteArray
  p : ByteArray
  n : ByteArray
  q0 : Int
  q1 : Bool
  q2 : Int
  q3 : ByteArray
  q4 : Option Addr
  q4l : Nat
  q4c : Nat
  q5 : Option Addr
  q5l : Nat
  q5c : Nat
instance : Inhabited OC := ⟨⟨⟨#[]⟩, ⟨#[]⟩, ⟨#[]⟩, 0, false, 0, ⟨#[]⟩, none, 0, 0, none, 0, 0⟩⟩
def OC.body (x : OC) : Array Value := #[.int .i64 x.q0, .bool x.q1, .int .i64 x.q2, .string x.q3, .slice x.q4 x.q4l x.q4c, .slice x.q5 x.q5l x.q5c]
def encO (x : OC) : List Value := [.string x.k, .string x.p, .string x.n, .int .i64 x.q0, .bool x.q1, .int .i64 x.q2, .string x.q3, .slice x.q4 x.q4l x.q4c, .slice x.q5 x.q5l x.q5c]
def ordO (x y : OC) : Int := cmpO x.k x.p x.n y.k y.p y.n

/-- An object: its cells, and the value that its body is. -/
abbrev Ob := OC × T
structure SliceO (w : World) (R : Nat → Prop) (os : List Ob) (a : Option Addr) (cap : Nat) : Prop where
  hdr : Hdr R 136 a os.length cap
  rows : ∀ i (h : i < os.length), ∀ bl ol, a = some ⟨bl, ol, none⟩ → Row w bl (ol + i * 9) (encO os[i].1).toArray
  sizes : ∀ i (h : i < os.length), os[i].1.k.size ≤ 140737488355328 ∧ os[i].1.p.size ≤ 140737488355328 ∧ os[i].1.n.size ≤ 140737488355328
  each : ∀ i (h : i < os.length), Lies w R os[i].2 os[i].1.body

theorem SliceO.weaken {w : World} {R R' : Nat → Prop} (hR : ∀ b, R b → R' b) {os : List Ob} {a : Option Addr} {cap : Nat} (h : SliceO w R os a cap) : SliceO w R' os a cap := ⟨Hdr.weaken hR h.hdr, h.rows, h.sizes, fun i hi => (h.each i hi).weaken hR⟩
theorem SliceO.block {w : World} {R : Nat → Prop} {os : List Ob} {bl ol cap : Nat} (h : SliceO w R os (some ⟨bl, ol, none⟩) cap) (hp : 0 < os.length) : bl < w.heap.size := Row.lt (h.rows 0 hp bl ol rfl) (by simp [encO])
theorem SliceO.later {w w' : World} {R : Nat → Prop} {os : List Ob} {a : Option Addr} {cap : Nat} (h : SliceO w R os a cap) (hb : Below w.heap.size w w') : SliceO w' R os a cap :=
  ⟨h.hdr, fun i hi bl ol e => (h.rows i hi bl ol e).below hb (Row.lt (h.rows i hi bl ol e) (by simp [encO])), h.sizes, fun i hi => (h.each i hi).later hb⟩
/-- The object at a place, cell by cell. -/
theorem SliceO.at {w0 w : World} {R : Nat → Prop} {os : List Ob} {a : Option Addr} {cap : Nat} (h : SliceO w0 R os a cap) (hw : Below w0.heap.size w0 w) {j : Nat} (hj : j < os.length) :
    ∃ bl ol, a = some ⟨bl, ol, none⟩ ∧ w.cell? ⟨bl, ol + j * 9, none⟩ = some (.string os[j].1.k) ∧ w.cell? ⟨bl, ol + j * 9 + 1, none⟩ = some (.string os[j].1.p) ∧ w.cell? ⟨bl, ol + j * 9 + 2, none⟩ = some (.string os[j].1.n) ∧
      w.cell? ⟨bl, ol + j * 9 + 3, none⟩ = some (.int .i64 os[j].1.q0) ∧ w.cell? ⟨bl, ol + j * 9 + 4, none⟩ = some (.bool os[j].1.q1) ∧ w.cell? ⟨bl, ol + j * 9 + 5, none⟩ = some (.int .i64 os[j].1.q2) ∧ w.cell? ⟨bl, ol + j * 9 + 6, none⟩ = some (.string os[j].1.q3) ∧
      w.cell? ⟨bl, ol + j * 9 + 7, none⟩ = some (.slice os[j].1.q4 os[j].1.q4l os[j].1.q4c) ∧ w.cell? ⟨bl, ol + j * 9 + 8, none⟩ = some (.slice os[j].1.q5 os[j].1.q5l os[j].1.q5c) := by
  obtain ⟨bl, ol, rfl, _⟩ := h.hdr.some (by omega)
  have hr := (h.rows j hj bl ol rfl).below hw (Row.lt (h.rows j hj bl ol rfl) (by simp [encO]))
  exact ⟨bl, ol, rfl, hr 0 (by simp [encO]), hr 1 (by simp [encO]), hr 2 (by simp [encO]), hr 3 (by simp [encO]), hr 4 (by simp [encO]), hr 5 (by simp [encO]), hr 6 (by simp [encO]), hr 7 (by simp [encO]), hr 8 (by simp [encO])⟩

/-! ### The order -/

theorem ord_lex {α : Type} {f g : α → α → Int} {x : α} (hf : OrdAt f x) (hg : OrdAt g x) (hsame : ∀ y z, OrdAt f x → f x y = 0 → f y z = f x z) : OrdAt (fun a b => if f a b ≠ 0 then f a b else g a b) x := by
  refine ⟨?_, fun y => ?_, fun y z h => ?_, fun y z h k => ?_⟩
  · show (if f x x ≠ 0 then _ else _) = 0
    rw [if_neg (by simp [hf.refl])]; exact hg.refl
  · show (if f y x ≠ 0 then f y x else g y x) = -(if f x y ≠ 0 then f x y else g x y)
    rw [hf.anti y, hg.anti y]
    by_cases h : f x y = 0
    · simp [h]
    · simp [h]
  · by_cases h0 : f x y = 0
    · simp only [h0, ne_eq, not_true_eq_false, if_false] at h
      have e1 := hf.same y z h0
      have e2 := hg.same y z h
      show (if f x z ≠ 0 then f x z else g x z) = if f y z ≠ 0 then f y z else g y z
      rw [e1, e2]
    · simp only [h0, ne_eq, not_false_eq_true, if_true] at h
  · by_cases h0 : f x y = 0
    · simp only [h0, ne_eq, not_true_eq_false, if_false] at h
      have e1 := hf.same y z h0
      by_cases h1 : f y z = 0
      · simp only [h1, ne_eq, not_true_eq_false, if_false] at k
        simp only [e1, h1, ne_eq, not_true_eq_false, if_false]
        exact hg.less y z h k
      · simp only [h1, ne_eq, not_false_eq_true, if_true] at k
        simp only [e1, h1, ne_eq, not_false_eq_true, if_true]
        omega
    · simp only [h0, ne_eq, not_false_eq_true, if_true] at h
      have hk : f y z ≤ 0 := by
        by_cases h1 : f y z = 0
        · omega
        · simp only [h1, ne_eq, not_false_eq_true, if_true] at k; exact k
      have := hf.less y z h hk
      have hn : ¬ f x z = 0 := by omega
      simp only [hn, ne_eq, not_false_eq_true, if_true]
      exact this
theorem ord_by {α β : Type} {f : β → β → Int} (g : α → β) {x : α} (h : OrdAt f (g x)) : OrdAt (fun a b => f (g a) (g b)) x := ⟨h.refl, fun y => h.anti _, fun y z => h.same _ _, fun y z => h.less _ _⟩
theorem ord_ordO (x : OC) : OrdAt ordO x := by
  have h3 := ord_lex (x := x) (ord_by OC.p (ord_cmpS x.p)) (ord_by OC.n (ord_cmpS x.n)) (fun y z h e => (h.same y z e).symm)
  have h2 := ord_lex (ord_by OC.k (ord_cmpS x.k)) h3 (fun y z h e => (h.same y z e).symm)
  have h1 := ord_lex (ord_by (fun a : OC => (rankO a.k : Int)) (ord_cmpI (rankO x.k : Int))) h2 (fun y z h e => (h.same y z e).symm)
  exact h1
theorem swo_ordO : SWO (ltOf ordO) where
  irrefl x := by unfold ltOf; rw [(ord_ordO x).refl]; rfl
  trans x y z h1 h2 := by
    unfold ltOf at *
    rw [decide_eq_true_eq] at *
    exact (ord_ordO x).less y z h1 (by omega)
  ntrans x y z h1 h2 := by
    unfold ltOf at *
    rw [decide_eq_false_iff_not] at *
    have a1 := (ord_ordO x).anti y
    have a2 := (ord_ordO y).anti z
    have a3 := (ord_ordO x).anti z
    have := (ord_ordO z).le y x (by omega) (by omega)
    omega
theorem ordO_zero {x y : OC} (h : ordO x y = 0) : x.k = y.k ∧ x.p = y.p ∧ x.n = y.n := cmpO_zero h

theorem encO_len (x : OC) : (encO x).length = 9 := rfl
theorem encO_one (x : OC) : ∀ v ∈ encO x, v.oneCell' = true := fun v hv => by
  simp only [encO, List.mem_cons, List.not_mem_nil, or_false] at hv
  rcases hv with rfl | rfl | rfl | rfl | rfl | rfl | rfl | rfl | rfl <;> rfl

end Go.Proofs.YtbmlmcoepmbelaaDoor
