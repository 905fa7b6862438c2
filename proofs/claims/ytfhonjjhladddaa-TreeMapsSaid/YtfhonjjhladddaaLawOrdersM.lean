/-
  TreeOrders, walked.
-/
import Derived.Test.YtfhonjjhladddaaAwake
import Derived.Test.YtfhonjjhladddaaOrder
import Derived.Test.YtfhonjjhladddaaRight
import Derived.Test.YtfhonjjhladddaaLaid
set_option linter.unusedVariables false
set_option linter.unusedSimpArgs false
namespace Go.Proofs.Ytfhonjjhladddaa
open Go.RowKit Go.Sort

theorem tSame_any {w0 : World} {R1 R2 : Nat → Prop} {t u : T} {cs ds : Array Value} (h : Lies w0 R1 t cs) (h2 : Lies w0 R2 u ds) (w : World) (hw : Below w0.heap.size w0 w) :
    Calls Try.prog 47 #[.agg cs, .agg ds] w fun e w' => e = .returned (.bool (T.cmp t u == 0)) ∧ Below w.heap.size w w' := by
  have HC := Lib.hid (fun w hw => tCompare_any h h2 w hw)
  obtain ⟨k, b, n, s, la, ll, lc, ma, ml, mc, rfl⟩ := h.six
  obtain ⟨k', b', n', s', la', ll', lc', ma', ml', mc', rfl⟩ := h2.six
  go_enter Try.func47, Try.ntmps47
  go_wp2_with fail
  refine (HC.out _ (bbox (bbox hw _ hw.size) _ (by have := hw.size; simp; omega))).mono ?_
  rintro e w1 ⟨rfl, hb1⟩
  go_wp2_with fail
  go_ret
  exact ⟨rfl, bunbox (bunbox hb1 (Nat.le_refl _) (by simp)) (by simp) (by simp)⟩

/-- Three values behind each other in a new block. -/
theorem three_values {w1 : World} {R1 R2 R3 : Nat → Prop} {t u v : T} {k k' k'' : Int} {b b' b'' : Bool} {n n' n'' : Int} {s s' s'' : ByteArray} {la la' la'' : Option Addr} {ll ll' ll'' lc lc' lc'' : Nat} {ma ma' ma'' : Option Addr} {ml ml' ml'' mc mc' mc'' : Nat}
    (h1 : Lies w1 R1 t #[.int .i64 k, .bool b, .int .i64 n, .string s, .slice la ll lc, .slice ma ml mc]) (h2 : Lies w1 R2 u #[.int .i64 k', .bool b', .int .i64 n', .string s', .slice la' ll' lc', .slice ma' ml' mc']) (h3 : Lies w1 R3 v #[.int .i64 k'', .bool b'', .int .i64 n'', .string s'', .slice la'' ll'' lc'', .slice ma'' ml'' mc'']) :
    SliceV (w1.alloc (.cells #[.int .i64 k, .bool b, .int .i64 n, .string s, .slice la ll lc, .slice ma ml mc, .int .i64 k', .bool b', .int .i64 n', .string s', .slice la' ll' lc', .slice ma' ml' mc', .int .i64 k'', .bool b'', .int .i64 n'', .string s'', .slice la'' ll'' lc'', .slice ma'' ml'' mc''] 25)) (fun _ => True) [t, u, v] (some ⟨w1.heap.size, 0, none⟩) 3
      (fun i => if i = 0 then #[.int .i64 k, .bool b, .int .i64 n, .string s, .slice la ll lc, .slice ma ml mc] else if i = 1 then #[.int .i64 k', .bool b', .int .i64 n', .string s', .slice la' ll' lc', .slice ma' ml' mc'] else #[.int .i64 k'', .bool b'', .int .i64 n'', .string s'', .slice la'' ll'' lc'', .slice ma'' ml'' mc'']) := by
  have hb := Below.alloc (Below.refl w1.heap.size w1) (Nat.le_refl _) (.cells #[.int .i64 k, .bool b, .int .i64 n, .string s, .slice la ll lc, .slice ma ml mc, .int .i64 k', .bool b', .int .i64 n', .string s', .slice la' ll' lc', .slice ma' ml' mc', .int .i64 k'', .bool b'', .int .i64 n'', .string s'', .slice la'' ll'' lc'', .slice ma'' ml'' mc''] 25)
  refine ⟨⟨Nat.le_refl 3, (by decide : 3 * 88 ≤ 140737488355328), by simp, fun _ => ⟨_, _, rfl, trivial⟩, by omega⟩, fun i hi bl ol e => ?_, fun i hi => ?_⟩
  · simp only [Option.some.injEq, Addr.mk.injEq, and_true] at e
    obtain ⟨rfl, rfl⟩ := e
    have hi3 : i < 3 := hi
    intro j hj
    have hj6 : j < 6 := by
      rcases (by omega : i = 0 ∨ i = 1 ∨ i = 2) with rfl | rfl | rfl <;> exact hj
    rw [Nat.zero_add, World.cell?_alloc_new]
    rcases (by omega : i = 0 ∨ i = 1 ∨ i = 2) with rfl | rfl | rfl <;> rcases (by omega : j = 0 ∨ j = 1 ∨ j = 2 ∨ j = 3 ∨ j = 4 ∨ j = 5) with rfl | rfl | rfl | rfl | rfl | rfl <;> rfl
  · have hi3 : i < 3 := hi
    rcases (by omega : i = 0 ∨ i = 1 ∨ i = 2) with rfl | rfl | rfl
    · exact (h1.later hb).weaken fun _ _ => trivial
    · exact (h2.later hb).weaken fun _ _ => trivial
    · exact (h3.later hb).weaken fun _ _ => trivial

/-- The boxes of three arguments, later. -/
theorem arg_boxes {w wr : World} {A B C : Array Value} {t1 t2 t3 : TypeId} {o4 : Obj} {N : Nat} (h : Below N ((((w.alloc (.cells A t1)).alloc (.cells B t2)).alloc (.cells C t3)).alloc o4) wr) (hN : w.heap.size + 3 ≤ N) (j : Nat) :
    wr.cell? ⟨w.heap.size, j, none⟩ = A[j]? ∧ wr.cell? ⟨w.heap.size + 1, j, none⟩ = B[j]? ∧ wr.cell? ⟨w.heap.size + 1 + 1, j, none⟩ = C[j]? := by
  have e1 : w.heap.size + 1 = (w.alloc (.cells A t1)).heap.size := by simp
  have e2 : w.heap.size + 1 + 1 = ((w.alloc (.cells A t1)).alloc (.cells B t2)).heap.size := by simp
  refine ⟨?_, ?_, ?_⟩
  · rw [h.cell (p := ⟨w.heap.size, j, none⟩) (by simp only; omega), World.cell?_alloc_lt _ _ _ (by simp; omega), World.cell?_alloc_lt _ _ _ (by simp; omega), World.cell?_alloc_lt _ _ _ (by simp), World.cell?_alloc_new]
  · rw [h.cell (p := ⟨w.heap.size + 1, j, none⟩) (by simp only; omega), World.cell?_alloc_lt _ _ _ (by simp), World.cell?_alloc_lt _ _ _ (by simp), e1, World.cell?_alloc_new]
  · rw [h.cell (p := ⟨w.heap.size + 1 + 1, j, none⟩) (by simp only; omega), World.cell?_alloc_lt _ _ _ (by simp), e2, World.cell?_alloc_new]

end Go.Proofs.Ytfhonjjhladddaa

/-
  Package layer's Over, Plain.
-/
set_option linter.unusedVariables false
set_option linter.unusedSimpArgs false
namespace Go.Proofs.Ytfhonjjhladddaa
open Go.RowKit Go.Sort

def OverIn (w : World) (t : T) (e : Ending) (w' : World) : Prop := ∃ ds, e = .returned (.agg ds) ∧ Lies w' (fun b => w.heap.size ≤ b) t ds ∧ Below w.heap.size w w'

set_option maxRecDepth 100000 in
set_option maxHeartbeats 4000000 in
theorem over_any {w0 : World} {R1 R2 : Nat → Prop} {t u : T} {cs ds : Array Value} (h1 : Lies w0 R1 t cs) (h2 : Lies w0 R2 u ds) (w : World) (hw : Below w0.heap.size w0 w) (hts : t.size ≤ 1000000) (hus : u.size ≤ 1000000) :
    Calls Try.prog 18 #[.agg cs, .agg ds] w (OverIn w (T.over t u)) := by
  have CT := Lib.hid (tClone_any h1)
  have H2 := Lib.hid h2
  obtain ⟨tk, tb, tn, tsr, tla, tll, tlc, tma, tml, tmc, rfl⟩ := h1.six
  obtain ⟨uk, ub, un, us, ula, ull, ulc, uma, uml, umc, rfl⟩ := h2.six
  clear h1 h2
  have h3 := Lib.hid ((((Below.refl w.heap.size w).alloc (Nat.le_refl _) (.cells #[.int .i64 tk, .bool tb, .int .i64 tn, .string tsr, .slice tla tll tlc, .slice tma tml tmc] 25)).alloc (by simp) (.cells #[.int .i64 uk, .bool ub, .int .i64 un, .string us, .slice ula ull ulc, .slice uma uml umc] 25)).alloc (by simp; omega) (.cells #[.int .i64 0, .bool false, .int .i64 0, .string ⟨#[]⟩, .slice none 0 0, .slice none 0 0] 25))
  obtain ⟨q0, q1, q2, q3⟩ := three_boxes (Below.refl (w.heap.size + 3) (((w.alloc (.cells #[.int .i64 tk, .bool tb, .int .i64 tn, .string tsr, .slice tla tll tlc, .slice tma tml tmc] 25)).alloc (.cells #[.int .i64 uk, .bool ub, .int .i64 un, .string us, .slice ula ull ulc, .slice uma uml umc] 25)).alloc (.cells #[.int .i64 0, .bool false, .int .i64 0, .string ⟨#[]⟩, .slice none 0 0, .slice none 0 0] 25))) (by omega)
  have hsz : (((w.alloc (.cells #[.int .i64 tk, .bool tb, .int .i64 tn, .string tsr, .slice tla tll tlc, .slice tma tml tmc] 25)).alloc (.cells #[.int .i64 uk, .bool ub, .int .i64 un, .string us, .slice ula ull ulc, .slice uma uml umc] 25)).alloc (.cells #[.int .i64 0, .bool false, .int .i64 0, .string ⟨#[]⟩, .slice none 0 0, .slice none 0 0] 25)).heap.size = w.heap.size + 3 := by simp
  go_enter Try.func18, Try.ntmps18
  go_wp2_with fail
  generalize hv : ((w.alloc (.cells #[.int .i64 tk, .bool tb, .int .i64 tn, .string tsr, .slice tla tll tlc, .slice tma tml tmc] 25)).alloc (.cells #[.int .i64 uk, .bool ub, .int .i64 un, .string us, .slice ula ull ulc, .slice uma uml umc] 25)).alloc (.cells #[.int .i64 0, .bool false, .int .i64 0, .string ⟨#[]⟩, .slice none 0 0, .slice none 0 0] 25) = v at *
  have Q2 := Lib.hid q2
  have Q3 := Lib.hid q3
  have SK : Hid (∀ wx : World, (∀ b, b < w.heap.size + 2 → wx.heap[b]? = v.heap[b]?) → wx.cell? ⟨w.heap.size, 0, none⟩ = some (.int .i64 tk) ∧ wx.cell? ⟨w.heap.size, 1, none⟩ = some (.bool tb) ∧ wx.cell? ⟨w.heap.size, 2, none⟩ = some (.int .i64 tn) ∧ wx.cell? ⟨w.heap.size, 3, none⟩ = some (.string tsr) ∧ wx.cell? ⟨w.heap.size, 4, none⟩ = some (.slice tla tll tlc) ∧ wx.cell? ⟨w.heap.size, 5, none⟩ = some (.slice tma tml tmc) ∧ wx.cell? ⟨w.heap.size + 1, 0, none⟩ = some (.int .i64 uk) ∧ wx.cell? ⟨w.heap.size + 1, 1, none⟩ = some (.bool ub) ∧ wx.cell? ⟨w.heap.size + 1, 2, none⟩ = some (.int .i64 un) ∧ wx.cell? ⟨w.heap.size + 1, 3, none⟩ = some (.string us) ∧ wx.cell? ⟨w.heap.size + 1, 4, none⟩ = some (.slice ula ull ulc) ∧ wx.cell? ⟨w.heap.size + 1, 5, none⟩ = some (.slice uma uml umc)) := fun wx hx => by
    have e0 : ∀ j', wx.cell? ⟨w.heap.size, j', none⟩ = _ := fun j' => (World.cell?_of_block (hx w.heap.size (by omega))).trans (q0 j')
    have e1 : ∀ j', wx.cell? ⟨w.heap.size + 1, j', none⟩ = _ := fun j' => (World.cell?_of_block (hx (w.heap.size + 1) (by omega))).trans (q1 j')
    exact ⟨e0 0, e0 1, e0 2, e0 3, e0 4, e0 5, e1 0, e1 1, e1 2, e1 3, e1 4, e1 5⟩
  have hwv := Lib.hid (bstep hw h3.out hw.size)
  clear q0 q1 q2 q3 hv
  go_region_held3 (fun wx : World => wx.cell? ⟨w.heap.size, 0, none⟩ = some (.int .i64 tk) ∧ wx.cell? ⟨w.heap.size, 1, none⟩ = some (.bool tb) ∧ wx.cell? ⟨w.heap.size, 2, none⟩ = some (.int .i64 tn) ∧ wx.cell? ⟨w.heap.size, 3, none⟩ = some (.string tsr) ∧ wx.cell? ⟨w.heap.size, 4, none⟩ = some (.slice tla tll tlc) ∧ wx.cell? ⟨w.heap.size, 5, none⟩ = some (.slice tma tml tmc) ∧ wx.cell? ⟨w.heap.size + 1, 0, none⟩ = some (.int .i64 uk) ∧ wx.cell? ⟨w.heap.size + 1, 1, none⟩ = some (.bool ub) ∧ wx.cell? ⟨w.heap.size + 1, 2, none⟩ = some (.int .i64 un) ∧ wx.cell? ⟨w.heap.size + 1, 3, none⟩ = some (.string us) ∧ wx.cell? ⟨w.heap.size + 1, 4, none⟩ = some (.slice ula ull ulc) ∧ wx.cell? ⟨w.heap.size + 1, 5, none⟩ = some (.slice uma uml umc))
    (first
      | with_reducible exact SK.out _ hs6
      | with_reducible exact SK.out _ hq5
      | with_reducible exact SK.out _ hq4
      | exact SK.out _ (fun _ _ => rfl)
      | fail)
    (first
      | (go_at_call 32
         refine (CT.out _ hwv.out.drew).mono ?_
         rintro e w4 ⟨dq, rfl, hLq, hb4⟩
         obtain ⟨d0, d1, d2, d3, d4, d4l, d4c, d5, d5l, d5c, rfl⟩ := hLq.six
         have hV4 : Below v.heap.size v w4 := undrew hb4
         have hq4 : ∀ b, b < w.heap.size + 2 → w4.heap[b]? = v.heap[b]? := fun b hb => hV4.block b (by omega))
      | (go_at_call 46
         refine (laid_any (H2.out.later (bstep hwv.out hV4 hwv.out.size)) hLq _ (Below.refl _ _) hts hus).mono ?_
         rintro e w5 ⟨dr, rfl, hLr, hb5⟩
         obtain ⟨e0, e1, e2, e3, e4, e4l, e4c, e5, e5l, e5c, rfl⟩ := hLr.six
         have hV5 : Below v.heap.size v w5 := bstep hV4 hb5 hV4.size
         have hq5 : ∀ b, b < w.heap.size + 2 → w5.heap[b]? = v.heap[b]? := fun b hb => hV5.block b (by omega)
         have y3 : ∀ j, w5.cell? ⟨w.heap.size + 1 + 1, j, none⟩ = _ := fun j => (hV5.cell (p := ⟨w.heap.size + 2, j, none⟩) (by simp only; omega)).trans (Q2.out j)
         have y4 : ∀ j, w5.frozen? ⟨w.heap.size + 1 + 1, j, none⟩ = false := fun j => (hV5.frozen (p := ⟨w.heap.size + 2, j, none⟩) (by simp only; omega)).trans (Q3.out j)
         have hs6 : ∀ b, b < w.heap.size + 2 → (setRow w5 (w.heap.size + 1 + 1) 0 [.int .i64 e0, .bool e1, .int .i64 e2, .string e3, .slice e4 e4l e4c, .slice e5 e5l e5c]).heap[b]? = v.heap[b]? := fun b hb => (setRow_heap _ _ _ _ _ (by omega)).trans (hq5 b hb)
         simp only [setRow, Nat.zero_add, Nat.reduceAdd] at hs6))
  have hg4 := hV4.size
  go_wp2_with fail
  obtain ⟨dd, hu, hdd⟩ := Try.structV
  refine ret_cells w5 (w.heap.size + 2) [.int .i64 e0, .bool e1, .int .i64 e2, .string e3, .slice e4 e4l e4c, .slice e5 e5l e5c] rfl Try.results18 rfl rfl hdd hu Try.sizeV (fun i hi => ⟨_, (y3 i).trans (Array.getElem?_eq_getElem (show i < 6 from hi))⟩) ?_
  refine ⟨_, rfl, (hLr.keep (fun x hx => setRow_heap _ _ _ _ _ ?_)).weaken (fun x hx => ?_), setRow_below _ (by omega) _ _ _ (bstep h3.out hV5 (by omega))⟩
  · simp only [World.size_drew] at hx; omega
  · simp only [World.size_drew] at hx; omega

end Go.Proofs.Ytfhonjjhladddaa
