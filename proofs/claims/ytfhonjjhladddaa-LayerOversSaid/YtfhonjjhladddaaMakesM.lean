/-
  What package tree makes of plain things: nothing, a truth, a text, a list.
-/
import Derived.Test.YtfhonjjhladddaaAwake
import Derived.Test.YtfhonjjhladddaaLawOrdersM
set_option linter.unusedVariables false
set_option linter.unusedSimpArgs false
namespace Go.Proofs.Ytfhonjjhladddaa
open Go.RowKit Go.Sort

theorem tNull_any (w : World) : Calls Try.prog 45 #[] w fun e w' => e = .returned (.agg #[.int .i64 0, .bool false, .int .i64 0, .string ⟨#[]⟩, .slice none 0 0, .slice none 0 0]) ∧ Below w.heap.size w w' := by
  go_enter Try.func45, Try.ntmps45
  go_wp2_with fail
  obtain ⟨dd, hu, hdd⟩ := Try.structV
  refine ret_read w.heap.size #[.int .i64 0, .bool false, .int .i64 0, .string ⟨#[]⟩, .slice none 0 0, .slice none 0 0] Try.results45 rfl rfl hdd hu Try.sizeV (fun i hi => by rw [World.cell?_alloc_new]; exact Array.getElem?_eq_getElem hi) ?_
  exact ⟨rfl, (Below.refl _ _).alloc (Nat.le_refl _) _⟩

theorem one_boxV {w w1 : World} {cs : Array Value} {ty : TypeId} (h : Below (w.alloc (.cells cs ty)).heap.size (w.alloc (.cells cs ty)) w1) :
    (∀ j, w1.cell? ⟨w.heap.size, j, none⟩ = cs[j]?) ∧ (∀ j, w1.frozen? ⟨w.heap.size, j, none⟩ = false) :=
  ⟨fun j => by rw [h.cell (p := ⟨w.heap.size, j, none⟩) (by simp), World.cell?_alloc_new], fun j => by rw [h.frozen (p := ⟨w.heap.size, j, none⟩) (by simp), World.frozen?_alloc_new]⟩

def T.listOf (ts : List T) : T := .mk 4 false 0 ⟨#[]⟩ ts []
def MadeL (w : World) (ts : List T) (e : Ending) (w' : World) : Prop := ∃ ds, e = .returned (.agg ds) ∧ Lies w' (fun b => w.heap.size ≤ b) (T.listOf ts) ds ∧ Below w.heap.size w w'
theorem wf4 : (Lit.int .i64 4).wf = true := by decide

set_option maxHeartbeats 800000 in
theorem tList_any {w0 : World} {R : Nat → Prop} {ts : List T} {a : Option Addr} {cap : Nat} {cl : Nat → Array Value} (h : SliceV w0 R ts a cap cl) (w : World) (hw : Below w0.heap.size w0 w) :
    Calls Try.prog 16 #[.slice a ts.length cap] w (MadeL w ts) := by
  have CV := Lib.hid (fun w hw => cloneValues_any h (fun i p w hw => tClone_any (h.each i p) w hw) w hw)
  go_enter Try.func16, Try.ntmps16
  go_wp2_with fail
  refine (CV.out _ (bbox hw _ hw.size)).mono ?_
  rintro e w1 ⟨a1, c1, dl1, rfl, hS1, hb1⟩
  obtain ⟨y1, y2⟩ := one_boxV hb1
  have hs1 := hb1.size
  simp only [World.size_alloc] at hs1
  have HS := Lib.hid hS1
  have HB := Lib.hid hb1
  have Y1 := Lib.hid y1
  clear hS1 hb1
  go_wp2_with fail
  obtain ⟨dd, hu, hdd⟩ := Try.structV
  refine ret_cells w1 w.heap.size [.int .i64 4, .bool false, .int .i64 0, .string ⟨#[]⟩, .slice a1 ts.length c1, .slice none 0 0] rfl Try.results16 rfl rfl hdd hu Try.sizeV (fun i hi => ⟨_, (Y1.out i).trans (Array.getElem?_eq_getElem (show i < 6 from hi))⟩) ?_
  refine ⟨_, rfl, Lies.of_slices wf4 wf0 empty_size ((HS.out.keepB (fun x hx _ => ?_)).weaken (fun x hx => ?_)) (empty_sliceP _ _), ?_⟩
  · simp only [World.size_alloc] at hx
    exact setRow_heap _ _ _ _ _ (by omega)
  · simp only [World.size_alloc] at hx
    omega
  · exact setRow_below _ (Nat.le_refl _) _ _ _ (bunbox HB.out (Nat.le_refl _) (by simp))

end Go.Proofs.Ytfhonjjhladddaa

/-
  Package layer's Plain.
-/
set_option linter.unusedVariables false
set_option linter.unusedSimpArgs false
namespace Go.Proofs.Ytfhonjjhladddaa
open Go.RowKit Go.Sort

def plainT (t : T) : Bool := T.cmp t (T.over T.nil t) == 0


set_option maxRecDepth 100000 in
set_option maxHeartbeats 4000000 in
theorem plain_any {w0 : World} {R : Nat → Prop} {t : T} {cs : Array Value} (h1 : Lies w0 R t cs) (w : World) (hw : Below w0.heap.size w0 w) (hts : t.size ≤ 1000000) :
    Calls Try.prog 22 #[.agg cs] w fun e w' => e = .returned (.bool (plainT t)) ∧ Below w.heap.size w w' := by
  have H1 := Lib.hid h1
  obtain ⟨tk, tb, tn, tsr, tla, tll, tlc, tma, tml, tmc, rfl⟩ := h1.six
  clear h1
  have h3 := Lib.hid ((Below.refl w.heap.size w).alloc (Nat.le_refl _) (.cells #[.int .i64 tk, .bool tb, .int .i64 tn, .string tsr, .slice tla tll tlc, .slice tma tml tmc] 25))
  have q0 : ∀ j, (w.alloc (.cells #[.int .i64 tk, .bool tb, .int .i64 tn, .string tsr, .slice tla tll tlc, .slice tma tml tmc] 25)).cell? ⟨w.heap.size, j, none⟩ = _ := fun j => World.cell?_alloc_new _ _ _ _
  go_enter Try.func22, Try.ntmps22
  go_wp2_with fail
  have hsz : (w.alloc (.cells #[.int .i64 tk, .bool tb, .int .i64 tn, .string tsr, .slice tla tll tlc, .slice tma tml tmc] 25)).heap.size = w.heap.size + 1 := by simp
  generalize hv : w.alloc (.cells #[.int .i64 tk, .bool tb, .int .i64 tn, .string tsr, .slice tla tll tlc, .slice tma tml tmc] 25) = v at *
  have SK : Hid (∀ wx : World, (∀ b, b < v.heap.size → wx.heap[b]? = v.heap[b]?) → wx.cell? ⟨w.heap.size, 0, none⟩ = some (.int .i64 tk) ∧ wx.cell? ⟨w.heap.size, 1, none⟩ = some (.bool tb) ∧ wx.cell? ⟨w.heap.size, 2, none⟩ = some (.int .i64 tn) ∧ wx.cell? ⟨w.heap.size, 3, none⟩ = some (.string tsr) ∧ wx.cell? ⟨w.heap.size, 4, none⟩ = some (.slice tla tll tlc) ∧ wx.cell? ⟨w.heap.size, 5, none⟩ = some (.slice tma tml tmc)) := fun wx hx => by
    have e0 : ∀ j', wx.cell? ⟨w.heap.size, j', none⟩ = _ := fun j' => (World.cell?_of_block (hx w.heap.size (by omega))).trans (q0 j')
    exact ⟨e0 0, e0 1, e0 2, e0 3, e0 4, e0 5⟩
  have hwv := Lib.hid (bstep hw h3.out hw.size)
  clear q0 hv
  go_region_held3 (fun wx : World => wx.cell? ⟨w.heap.size, 0, none⟩ = some (.int .i64 tk) ∧ wx.cell? ⟨w.heap.size, 1, none⟩ = some (.bool tb) ∧ wx.cell? ⟨w.heap.size, 2, none⟩ = some (.int .i64 tn) ∧ wx.cell? ⟨w.heap.size, 3, none⟩ = some (.string tsr) ∧ wx.cell? ⟨w.heap.size, 4, none⟩ = some (.slice tla tll tlc) ∧ wx.cell? ⟨w.heap.size, 5, none⟩ = some (.slice tma tml tmc))
    (first
      | with_reducible exact SK.out _ hq6
      | with_reducible exact SK.out _ hq5
      | with_reducible exact SK.out _ hq4
      | exact SK.out _ (fun _ _ => rfl)
      | fail)
    (first
      | (go_at_call 45
         refine (tNull_any _).mono ?_
         rintro e w4 ⟨rfl, hb4⟩
         have hV4 : Below v.heap.size v w4 := undrew hb4
         have hq4 : ∀ b, b < v.heap.size → w4.heap[b]? = v.heap[b]? := fun b hb => hV4.block b hb)
      | (go_at_call 18
         refine (over_any (nil_lies w4 (fun _ => True)) (H1.out.later (bstep hwv.out hV4 hwv.out.size)) _ (Below.refl _ _) (by unfold T.nil; rw [T.size_mk]; simp) hts).mono ?_
         rintro e w5 ⟨dr, rfl, hLr, hb5⟩
         obtain ⟨e0, e1, e2, e3, e4, e4l, e4c, e5, e5l, e5c, rfl⟩ := hLr.six
         have hV5 : Below v.heap.size v w5 := bstep hV4 hb5 hV4.size
         have hq5 : ∀ b, b < v.heap.size → w5.heap[b]? = v.heap[b]? := fun b hb => hV5.block b hb)
      | (go_at_call 47
         refine (tSame_any (H1.out.later (bstep hwv.out hV5 hwv.out.size)) hLr _ (Below.refl _ _)).mono ?_
         rintro e w6 ⟨rfl, hb6⟩
         have hV6 : Below v.heap.size v w6 := bstep hV5 hb6 hV5.size
         have hq6 : ∀ b, b < v.heap.size → w6.heap[b]? = v.heap[b]? := fun b hb => hV6.block b hb))
  go_wp2_with fail
  go_ret
  exact ⟨rfl, bstep h3.out hV6 (by omega)⟩

end Go.Proofs.Ytfhonjjhladddaa
