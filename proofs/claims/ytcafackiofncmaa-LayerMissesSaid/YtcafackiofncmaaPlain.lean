/-
  Package layer's Plain.
-/
import Derived.Test.YtcafackiofncmaaLayer
import Derived.Test.YtcafackiofncmaaMakes
set_option linter.unusedVariables false
set_option linter.unusedSimpArgs false
namespace Go.Proofs.Ytcafackiofncmaa
open Go.RowKit Go.Sort

def plainT (t : T) : Bool := T.cmp t (T.over T.nil t) == 0


set_option maxRecDepth 100000 in
set_option maxHeartbeats 4000000 in
theorem plain_any {w0 : World} {R : Nat → Prop} {t : T} {cs : Array Value} (h1 : Lies w0 R t cs) (w : World) (hw : Below w0.heap.size w0 w) (hts : t.size ≤ 1000000) :
    Calls Try.prog 16 #[.agg cs] w fun e w' => e = .returned (.bool (plainT t)) ∧ Below w.heap.size w w' := by
  have H1 := Lib.hid h1
  obtain ⟨tk, tb, tn, tsr, tla, tll, tlc, tma, tml, tmc, rfl⟩ := h1.six
  clear h1
  have h3 := Lib.hid ((Below.refl w.heap.size w).alloc (Nat.le_refl _) (.cells #[.int .i64 tk, .bool tb, .int .i64 tn, .string tsr, .slice tla tll tlc, .slice tma tml tmc] 25))
  have q0 : ∀ j, (w.alloc (.cells #[.int .i64 tk, .bool tb, .int .i64 tn, .string tsr, .slice tla tll tlc, .slice tma tml tmc] 25)).cell? ⟨w.heap.size, j, none⟩ = _ := fun j => World.cell?_alloc_new _ _ _ _
  go_enter Try.func16, Try.ntmps16
  go_wp2_with fail
  have hsz : (w.alloc (.cells #[.int .i64 tk, .bool tb, .int .i64 tn, .string tsr, .slice tla tll tlc, .slice tma tml tmc] 25)).heap.size = w.heap.size + 1 := by simp
  generalize hv : w.alloc (.cells #[.int .i64 tk, .bool tb, .int .i64 tn, .string tsr, .slice tla tll tlc, .slice tma tml tmc] 25) = v at *
  have SK : Hid (∀ wx : World, (∀ b, b < v.heap.size → wx.heap[b]? = v.heap[b]?) → wx.cell? ⟨w.heap.size, 0, none⟩ = some (.int .i64 tk) ∧ wx.cell? ⟨w.heap.size, 1, none⟩ = some (.bool tb) ∧ wx.cell? ⟨w.heap.size, 2, none⟩ = some (.int .i64 tn) ∧ wx.cell? ⟨w.heap.size, 3, none⟩ = some (.string tsr) ∧ wx.cell? ⟨w.heap.size, 4, none⟩ = some (.slice tla tll tlc) ∧ wx.cell? ⟨w.heap.size, 5, none⟩ = some (.slice tma tml tmc)) := fun wx hx => by
    have e0 : ∀ j', wx.cell? ⟨w.heap.size, j', none⟩ = _ := fun j' => (World.cell?_of_block (hx w.heap.size (by omega))).trans (q0 j')
    exact ⟨e0 0, e0 1, e0 2, e0 3, e0 4, e0 5⟩
  have hwv := Lib.hid (bstep hw h3.out hw.size)
  clear q0 hv
  go_region_held3 (fun wx : World => wx.cell? ⟨w.heap.size, 0, none⟩ = some (.int .i64 tk) ∧ wx.cell? ⟨w.heap.size, 1, none⟩ = some (.bool tb) ∧ wx.cell? ⟨w.heap.size, 2, none⟩ = some (.int .i64 tn) ∧ wx.cell? ⟨w.heap.size, 3, none⟩ = some (.string tsr) ∧ wx.cell? ⟨w.heap.size, 4, none⟩ = some (.slice tla tll tlc) ∧ wx.cell? ⟨w.heap.size, 5, none⟩ = some (.slice tma tml tmc))
    (first
      | with_reducible exact SK.out _ hq6
      | with_reducible exact SK.out _ hq5
      | with_reducible exact SK.out _ hq4
      | exact SK.out _ (fun _ _ => rfl)
      | fail)
    (first
      | (go_at_call 20
         refine (tNull_any _).mono ?_
         rintro e w4 ⟨rfl, hb4⟩
         have hV4 : Below v.heap.size v w4 := undrew hb4
         have hq4 : ∀ b, b < v.heap.size → w4.heap[b]? = v.heap[b]? := fun b hb => hV4.block b hb)
      | (go_at_call 12
         refine (over_any (nil_lies w4 (fun _ => True)) (H1.out.later (bstep hwv.out hV4 hwv.out.size)) _ (Below.refl _ _) (by unfold T.nil; rw [T.size_mk]; simp) hts).mono ?_
         rintro e w5 ⟨dr, rfl, hLr, hb5⟩
         obtain ⟨e0, e1, e2, e3, e4, e4l, e4c, e5, e5l, e5c, rfl⟩ := hLr.six
         have hV5 : Below v.heap.size v w5 := bstep hV4 hb5 hV4.size
         have hq5 : ∀ b, b < v.heap.size → w5.heap[b]? = v.heap[b]? := fun b hb => hV5.block b hb)
      | (go_at_call 30
         refine (tSame_any (H1.out.later (bstep hwv.out hV5 hwv.out.size)) hLr _ (Below.refl _ _)).mono ?_
         rintro e w6 ⟨rfl, hb6⟩
         have hV6 : Below v.heap.size v w6 := bstep hV5 hb6 hV5.size
         have hq6 : ∀ b, b < v.heap.size → w6.heap[b]? = v.heap[b]? := fun b hb => hV6.block b hb))
  go_wp2_with fail
  go_ret
  exact ⟨rfl, bstep h3.out hV6 (by omega)⟩

end Go.Proofs.Ytcafackiofncmaa
