/-
  Package layer's All.
-/
import Derived.Test.YtfhonjjhladddaaLawOrdersM
import Derived.Test.YtfhonjjhladddaaMapNilM
import Derived.Test.YtfhonjjhladddaaAwake
set_option linter.unusedVariables false
set_option linter.unusedSimpArgs false
namespace Go.Proofs.Ytfhonjjhladddaa
open Go.RowKit Go.Sort

/-- Six cells of a block. -/
def BoxA (w : World) (b : Nat) (c0 c1 c2 c3 c4 c5 : Value) : Prop :=
  w.cell? ⟨b, 0, none⟩ = some c0 ∧ w.cell? ⟨b, 1, none⟩ = some c1 ∧ w.cell? ⟨b, 2, none⟩ = some c2 ∧ w.cell? ⟨b, 3, none⟩ = some c3 ∧ w.cell? ⟨b, 4, none⟩ = some c4 ∧ w.cell? ⟨b, 5, none⟩ = some c5
theorem BoxA.later {w w' : World} {b : Nat} {c0 c1 c2 c3 c4 c5 : Value} (h : BoxA w b c0 c1 c2 c3 c4 c5) (hb : Below w.heap.size w w') : BoxA w' b c0 c1 c2 c3 c4 c5 :=
  ⟨cells_frame hb h.1, cells_frame hb h.2.1, cells_frame hb h.2.2.1, cells_frame hb h.2.2.2.1, cells_frame hb h.2.2.2.2.1, cells_frame hb h.2.2.2.2.2⟩
theorem BoxA.new (w : World) (c0 c1 c2 c3 c4 c5 : Value) (ty : TypeId) : BoxA (w.alloc (.cells #[c0, c1, c2, c3, c4, c5] ty)) w.heap.size c0 c1 c2 c3 c4 c5 := by
  refine ⟨?_, ?_, ?_, ?_, ?_, ?_⟩ <;> rw [World.cell?_alloc_new] <;> rfl
theorem BoxA.row {W : World} {b : Nat} {c0 c1 c2 c3 c4 c5 : Value} (h : BoxA W b c0 c1 c2 c3 c4 c5) (d0 d1 d2 d3 d4 d5 : Value) : BoxA (setRow W b 0 [d0, d1, d2, d3, d4, d5]) b d0 d1 d2 d3 d4 d5 := by
  have key : ∀ i (hi : i < 6), (setRow W b 0 [d0, d1, d2, d3, d4, d5]).cell? ⟨b, 0 + i, none⟩ = some [d0, d1, d2, d3, d4, d5][i] := setRow_cell b [d0, d1, d2, d3, d4, d5] W 0 fun i hi => by
    rw [Nat.zero_add]
    have hi6 : i < 6 := hi
    rcases (by omega : i = 0 ∨ i = 1 ∨ i = 2 ∨ i = 3 ∨ i = 4 ∨ i = 5) with rfl | rfl | rfl | rfl | rfl | rfl
    · exact ⟨_, h.1⟩
    · exact ⟨_, h.2.1⟩
    · exact ⟨_, h.2.2.1⟩
    · exact ⟨_, h.2.2.2.1⟩
    · exact ⟨_, h.2.2.2.2.1⟩
    · exact ⟨_, h.2.2.2.2.2⟩
  exact ⟨key 0 (by omega), key 1 (by omega), key 2 (by omega), key 3 (by omega), key 4 (by omega), key 5 (by omega)⟩
theorem BoxA.lt {W : World} {b : Nat} {c0 c1 c2 c3 c4 c5 : Value} (h : BoxA W b c0 c1 c2 c3 c4 c5) : b < W.heap.size := World.block_lt_of_cell? _ _ h.1
theorem BoxA.at {W : World} {b : Nat} {c0 c1 c2 c3 c4 c5 : Value} (h : BoxA W b c0 c1 c2 c3 c4 c5) : ∀ i, i < 6 → ∃ u, W.cell? ⟨b, i, none⟩ = some u := fun i hi => by
  rcases (by omega : i = 0 ∨ i = 1 ∨ i = 2 ∨ i = 3 ∨ i = 4 ∨ i = 5) with rfl | rfl | rfl | rfl | rfl | rfl
  · exact ⟨_, h.1⟩
  · exact ⟨_, h.2.1⟩
  · exact ⟨_, h.2.2.1⟩
  · exact ⟨_, h.2.2.2.1⟩
  · exact ⟨_, h.2.2.2.2.1⟩
  · exact ⟨_, h.2.2.2.2.2⟩

/-- The map of nothing. -/
def T.none5 : T := .mk 5 false 0 ⟨#[]⟩ [] []
theorem none5_lies (w : World) (R : Nat → Prop) : Lies w R T.none5 #[.int .i64 5, .bool false, .int .i64 0, .string ⟨#[]⟩, .slice none 0 0, .slice none 0 0] :=
  Lies.of_slices (l := []) (m := []) wf5 wf0 empty_size (empty_sliceV _ _) (empty_sliceP _ _)

/-- Values laid over each other, the first j of them. -/
def layT (ts : List T) (j : Nat) : T := (ts.take j).foldl T.over T.none5
theorem layT_zero (ts : List T) : layT ts 0 = T.none5 := rfl
theorem layT_succ (ts : List T) (j : Nat) (h : j < ts.length) : layT ts (j + 1) = T.over (layT ts j) ts[j] := by
  unfold layT
  rw [List.take_succ_eq_append_getElem h, List.foldl_append]
  rfl
theorem layT_all (ts : List T) : layT ts ts.length = ts.foldl T.over T.none5 := by simp [layT]

set_option maxRecDepth 100000 in
set_option maxHeartbeats 4000000 in
theorem all_any {w0 : World} {R : Nat → Prop} {ts : List T} {a : Option Addr} {cap : Nat} {cl : Nat → Array Value} (h : SliceV w0 R ts a cap cl) (w : World) (hw : Below w0.heap.size w0 w)
    (hz : ∀ j, j < ts.length → (layT ts j).size ≤ 1000000) (hzt : ∀ i (hi : i < ts.length), ts[i].size ≤ 1000000) :
    Calls Try.prog 20 #[.slice a ts.length cap] w (OverIn w (ts.foldl T.over T.none5)) := by
  have H := Lib.hid h
  have HZ := Lib.hid hz
  have HZT := Lib.hid hzt
  have HS := Lib.hid (layT_succ ts)
  have HE := Lib.hid (layT_all ts)
  have ll := h.hdr.le
  have lx := h.hdr.big
  clear h hz hzt
  have h0 := Lib.hid ((Below.refl w.heap.size w).alloc (Nat.le_refl _) (.cells #[.int .i64 0, .bool false, .int .i64 0, .string ⟨#[]⟩, .slice none 0 0, .slice none 0 0] 25))
  go_enter Try.func20, Try.ntmps20
  go_wp2_with fail
  refine (tMap_nil _).mono ?_
  rintro e w1 ⟨rfl, hb1⟩
  have hs1 := hb1.size
  simp only [World.size_alloc] at hs1
  have y2 : ∀ j, w1.cell? ⟨w.heap.size, j, none⟩ = _ := (one_boxL hb1).1
  have f2 : ∀ j, w1.frozen? ⟨w.heap.size, j, none⟩ = _ := (one_boxL hb1).2
  have Y2 : Hid (BoxA w1 w.heap.size (.int .i64 0) (.bool false) (.int .i64 0) (.string ⟨#[]⟩) (.slice none 0 0) (.slice none 0 0)) := ⟨y2 0, y2 1, y2 2, y2 3, y2 4, y2 5⟩
  have F2 := Lib.hid f2
  have A1 := Lib.hid (bstep h0.out hb1 (by simp))
  have hw1 := Lib.hid (bstep hw A1.out hw.size)
  clear y2 f2 hb1
  go_wp2_with fail
  go_loopw [5, 9] (fun _ vi wr => ∃ (j : Nat) (m0 : Int) (m1 : Bool) (m2 : Int) (m3 : ByteArray) (m4 : Option Addr) (m4l m4c : Nat) (m5 : Option Addr) (m5l m5c : Nat), j ≤ ts.length ∧ vi = .int .i64 j ∧
      BoxA wr w1.heap.size (.int .i64 m0) (.bool m1) (.int .i64 m2) (.string m3) (.slice m4 m4l m4c) (.slice m5 m5l m5c) ∧ Hid (Lies wr (fun b => w1.heap.size < b) (layT ts j) #[.int .i64 m0, .bool m1, .int .i64 m2, .string m3, .slice m4 m4l m4c, .slice m5 m5l m5c]) ∧ (∀ k, wr.frozen? ⟨w1.heap.size, k, none⟩ = false) ∧ Below w1.heap.size w1 wr) (fun _ vi _ => ts.length - (intOf vi).toNat)
  case atStart => exact ⟨0, 5, false, 0, ⟨#[]⟩, none, 0, 0, none, 0, 0, by omega, rfl, BoxA.new _ _ _ _ _ _ _ _, none5_lies _ _, fun k => World.frozen?_alloc_new _ _ _ _, (Below.refl _ _).alloc (Nat.le_refl _) _⟩
  case round =>
    obtain ⟨j, m0, m1, m2, m3, m4, m4l, m4c, m5, m5l, m5c, hj, rfl, hbox, hlies, hfz, hbw⟩ := hrel
    have hbr := bstep hw1.out hbw hw1.out.size
    have HBOX := Lib.hid hbox
    have hbl := hbox.lt
    have HFZ := Lib.hid hfz
    clear hbox hfz
    by_cases hjl : j < ts.length
    · obtain ⟨bl, ol, c0, c1, c2, c3, c4, c4l, c4c, c5, c5l, c5c, rfl, hcl, r0, r1, r2, r3, r4, r5⟩ := openL hbr H.out.hdr H.out.rows hjl (H.out.each j hjl)
      have hE := H.out.each j hjl
      rw [hcl] at hE
      have HEL := Lib.hid hE
      have g1 := HZ.out j hjl
      have g2 := HZT.out j hjl
      have q1 := HS.out j hjl
      have Q1 := Lib.hid q1
      clear hcl hE q1
      have hv := Lib.hid ((Below.refl wr.heap.size wr).alloc (Nat.le_refl _) (.cells #[.int .i64 c0, .bool c1, .int .i64 c2, .string c3, .slice c4 c4l c4c, .slice c5 c5l c5c] 25))
      obtain ⟨xm0, xm1, xm2, xm3, xm4, xm5⟩ := HBOX.out.later hv.out
      go_wp2_with fail
      refine (laid_any (HEL.out.later (bstep hbr hv.out hbr.size)) (hlies.out.later hv.out) _ (Below.refl _ _) g1 g2).mono ?_
      rintro e w5 ⟨dq, rfl, hLq, hb5⟩
      rw [← Q1.out] at hLq
      obtain ⟨q0, q1, q2, q3, q4, q4l, q4c, q5, q5l, q5c, rfl⟩ := hLq.six
      have hs5 := hb5.size
      simp only [World.size_alloc] at hs5
      have hrw5 := Lib.hid (bstep hv.out hb5 (by simp))
      have ybx := Lib.hid (HBOX.out.later hrw5.out)
      obtain ⟨zm0, zm1, zm2, zm3, zm4, zm5⟩ := ybx.out
      have yfz : ∀ k, w5.frozen? ⟨w1.heap.size, k, none⟩ = false := fun k => (hrw5.out.frozen (p := ⟨w1.heap.size, k, none⟩) hbl).trans (HFZ.out k)
      have YFZ := Lib.hid yfz
      have HLQ := Lib.hid hLq
      clear hLq hb5 xm0 xm1 xm2 xm3 xm4 xm5 r0 r1 r2 r3 r4 r5
      go_wp2_with fail
      go_roundw
      case rel => exact ⟨j + 1, q0, q1, q2, q3, q4, q4l, q4c, q5, q5l, q5c, by omega, by go_num, (ybx.out.row _ _ _ _ _ _), (HLQ.out.keep (fun x hx => setRow_heap _ [.int .i64 q0, .bool q1, .int .i64 q2, .string q3, .slice q4 q4l q4c, .slice q5 q5l q5c] _ _ _ (by simp only [World.size_alloc] at hx; omega))).weaken (fun x hx => by simp only [World.size_alloc] at hx; omega), (fun k => (setRow_frozen _ [.int .i64 q0, .bool q1, .int .i64 q2, .string q3, .slice q4 q4l q4c, .slice q5 q5l q5c] _ _ _).trans (YFZ.out k)), setRow_below _ (Nat.le_refl _) [.int .i64 q0, .bool q1, .int .i64 q2, .string q3, .slice q4 q4l q4c, .slice q5 q5l q5c] _ _ (bstep hbw hrw5.out hbw.size)⟩
      case measure => simp [intOf]; omega
    · obtain rfl : j = ts.length := by omega
      have hL := hlies.out
      rw [HE.out] at hL
      have HL := Lib.hid hL
      obtain ⟨xm0, xm1, xm2, xm3, xm4, xm5⟩ := HBOX.out
      have YB := Lib.hid (Y2.out.later hbw)
      obtain ⟨yb0, yb1, yb2, yb3, yb4, yb5⟩ := YB.out
      have yf : ∀ k, wr.frozen? ⟨w.heap.size, k, none⟩ = false := fun k => (hbw.frozen (p := ⟨w.heap.size, k, none⟩) (by simp only; omega)).trans (F2.out k)
      clear hL hlies
      go_wp2_with fail
      obtain ⟨dd, hu, hdd⟩ := Try.structV
      refine ret_cells wr w.heap.size [.int .i64 m0, .bool m1, .int .i64 m2, .string m3, .slice m4 m4l m4c, .slice m5 m5l m5c] rfl Try.results20 rfl rfl hdd hu Try.sizeV (fun i hi => YB.out.at i hi) ?_
      exact ⟨_, rfl, (HL.out.keep (fun x hx => setRow_heap _ _ _ _ _ (by omega))).weaken (fun x hx => by omega), setRow_below _ (Nat.le_refl _) _ _ _ (bstep A1.out hbw A1.out.size)⟩

end Go.Proofs.Ytfhonjjhladddaa

/-
  What package tree makes of plain things: nothing, a truth, a text, a list.
-/
set_option linter.unusedVariables false
set_option linter.unusedSimpArgs false
namespace Go.Proofs.Ytfhonjjhladddaa
open Go.RowKit Go.Sort

theorem tNull_any (w : World) : Calls Try.prog 45 #[] w fun e w' => e = .returned (.agg #[.int .i64 0, .bool false, .int .i64 0, .string ⟨#[]⟩, .slice none 0 0, .slice none 0 0]) ∧ Below w.heap.size w w' := by
  go_enter Try.func45, Try.ntmps45
  go_wp2_with fail
  obtain ⟨dd, hu, hdd⟩ := Try.structV
  refine ret_read w.heap.size #[.int .i64 0, .bool false, .int .i64 0, .string ⟨#[]⟩, .slice none 0 0, .slice none 0 0] Try.results45 rfl rfl hdd hu Try.sizeV (fun i hi => by rw [World.cell?_alloc_new]; exact Array.getElem?_eq_getElem hi) ?_
  exact ⟨rfl, (Below.refl _ _).alloc (Nat.le_refl _) _⟩

theorem one_boxV {w w1 : World} {cs : Array Value} {ty : TypeId} (h : Below (w.alloc (.cells cs ty)).heap.size (w.alloc (.cells cs ty)) w1) :
    (∀ j, w1.cell? ⟨w.heap.size, j, none⟩ = cs[j]?) ∧ (∀ j, w1.frozen? ⟨w.heap.size, j, none⟩ = false) :=
  ⟨fun j => by rw [h.cell (p := ⟨w.heap.size, j, none⟩) (by simp), World.cell?_alloc_new], fun j => by rw [h.frozen (p := ⟨w.heap.size, j, none⟩) (by simp), World.frozen?_alloc_new]⟩

def T.listOf (ts : List T) : T := .mk 4 false 0 ⟨#[]⟩ ts []
def MadeL (w : World) (ts : List T) (e : Ending) (w' : World) : Prop := ∃ ds, e = .returned (.agg ds) ∧ Lies w' (fun b => w.heap.size ≤ b) (T.listOf ts) ds ∧ Below w.heap.size w w'
theorem wf4 : (Lit.int .i64 4).wf = true := by decide

set_option maxHeartbeats 800000 in
theorem tList_any {w0 : World} {R : Nat → Prop} {ts : List T} {a : Option Addr} {cap : Nat} {cl : Nat → Array Value} (h : SliceV w0 R ts a cap cl) (w : World) (hw : Below w0.heap.size w0 w) :
    Calls Try.prog 16 #[.slice a ts.length cap] w (MadeL w ts) := by
  have CV := Lib.hid (fun w hw => cloneValues_any h (fun i p w hw => tClone_any (h.each i p) w hw) w hw)
  go_enter Try.func16, Try.ntmps16
  go_wp2_with fail
  refine (CV.out _ (bbox hw _ hw.size)).mono ?_
  rintro e w1 ⟨a1, c1, dl1, rfl, hS1, hb1⟩
  obtain ⟨y1, y2⟩ := one_boxV hb1
  have hs1 := hb1.size
  simp only [World.size_alloc] at hs1
  have HS := Lib.hid hS1
  have HB := Lib.hid hb1
  have Y1 := Lib.hid y1
  clear hS1 hb1
  go_wp2_with fail
  obtain ⟨dd, hu, hdd⟩ := Try.structV
  refine ret_cells w1 w.heap.size [.int .i64 4, .bool false, .int .i64 0, .string ⟨#[]⟩, .slice a1 ts.length c1, .slice none 0 0] rfl Try.results16 rfl rfl hdd hu Try.sizeV (fun i hi => ⟨_, (Y1.out i).trans (Array.getElem?_eq_getElem (show i < 6 from hi))⟩) ?_
  refine ⟨_, rfl, Lies.of_slices wf4 wf0 empty_size ((HS.out.keepB (fun x hx _ => ?_)).weaken (fun x hx => ?_)) (empty_sliceP _ _), ?_⟩
  · simp only [World.size_alloc] at hx
    exact setRow_heap _ _ _ _ _ (by omega)
  · simp only [World.size_alloc] at hx
    omega
  · exact setRow_below _ (Nat.le_refl _) _ _ _ (bunbox HB.out (Nat.le_refl _) (by simp))

end Go.Proofs.Ytfhonjjhladddaa

/-
  Package layer's Plain.
-/
set_option linter.unusedVariables false
set_option linter.unusedSimpArgs false
namespace Go.Proofs.Ytfhonjjhladddaa
open Go.RowKit Go.Sort

def plainT (t : T) : Bool := T.cmp t (T.over T.nil t) == 0


set_option maxRecDepth 100000 in
set_option maxHeartbeats 4000000 in
theorem plain_any {w0 : World} {R : Nat → Prop} {t : T} {cs : Array Value} (h1 : Lies w0 R t cs) (w : World) (hw : Below w0.heap.size w0 w) (hts : t.size ≤ 1000000) :
    Calls Try.prog 22 #[.agg cs] w fun e w' => e = .returned (.bool (plainT t)) ∧ Below w.heap.size w w' := by
  have H1 := Lib.hid h1
  obtain ⟨tk, tb, tn, tsr, tla, tll, tlc, tma, tml, tmc, rfl⟩ := h1.six
  clear h1
  have h3 := Lib.hid ((Below.refl w.heap.size w).alloc (Nat.le_refl _) (.cells #[.int .i64 tk, .bool tb, .int .i64 tn, .string tsr, .slice tla tll tlc, .slice tma tml tmc] 25))
  have q0 : ∀ j, (w.alloc (.cells #[.int .i64 tk, .bool tb, .int .i64 tn, .string tsr, .slice tla tll tlc, .slice tma tml tmc] 25)).cell? ⟨w.heap.size, j, none⟩ = _ := fun j => World.cell?_alloc_new _ _ _ _
  go_enter Try.func22, Try.ntmps22
  go_wp2_with fail
  have hsz : (w.alloc (.cells #[.int .i64 tk, .bool tb, .int .i64 tn, .string tsr, .slice tla tll tlc, .slice tma tml tmc] 25)).heap.size = w.heap.size + 1 := by simp
  generalize hv : w.alloc (.cells #[.int .i64 tk, .bool tb, .int .i64 tn, .string tsr, .slice tla tll tlc, .slice tma tml tmc] 25) = v at *
  have SK : Hid (∀ wx : World, (∀ b, b < v.heap.size → wx.heap[b]? = v.heap[b]?) → wx.cell? ⟨w.heap.size, 0, none⟩ = some (.int .i64 tk) ∧ wx.cell? ⟨w.heap.size, 1, none⟩ = some (.bool tb) ∧ wx.cell? ⟨w.heap.size, 2, none⟩ = some (.int .i64 tn) ∧ wx.cell? ⟨w.heap.size, 3, none⟩ = some (.string tsr) ∧ wx.cell? ⟨w.heap.size, 4, none⟩ = some (.slice tla tll tlc) ∧ wx.cell? ⟨w.heap.size, 5, none⟩ = some (.slice tma tml tmc)) := fun wx hx => by
    have e0 : ∀ j', wx.cell? ⟨w.heap.size, j', none⟩ = _ := fun j' => (World.cell?_of_block (hx w.heap.size (by omega))).trans (q0 j')
    exact ⟨e0 0, e0 1, e0 2, e0 3, e0 4, e0 5⟩
  have hwv := Lib.hid (bstep hw h3.out hw.size)
  clear q0 hv
  go_region_held3 (fun wx : World => wx.cell? ⟨w.heap.size, 0, none⟩ = some (.int .i64 tk) ∧ wx.cell? ⟨w.heap.size, 1, none⟩ = some (.bool tb) ∧ wx.cell? ⟨w.heap.size, 2, none⟩ = some (.int .i64 tn) ∧ wx.cell? ⟨w.heap.size, 3, none⟩ = some (.string tsr) ∧ wx.cell? ⟨w.heap.size, 4, none⟩ = some (.slice tla tll tlc) ∧ wx.cell? ⟨w.heap.size, 5, none⟩ = some (.slice tma tml tmc))
    (first
      | with_reducible exact SK.out _ hq6
      | with_reducible exact SK.out _ hq5
      | with_reducible exact SK.out _ hq4
      | exact SK.out _ (fun _ _ => rfl)
      | fail)
    (first
      | (go_at_call 45
         refine (tNull_any _).mono ?_
         rintro e w4 ⟨rfl, hb4⟩
         have hV4 : Below v.heap.size v w4 := undrew hb4
         have hq4 : ∀ b, b < v.heap.size → w4.heap[b]? = v.heap[b]? := fun b hb => hV4.block b hb)
      | (go_at_call 18
         refine (over_any (nil_lies w4 (fun _ => True)) (H1.out.later (bstep hwv.out hV4 hwv.out.size)) _ (Below.refl _ _) (by unfold T.nil; rw [T.size_mk]; simp) hts).mono ?_
         rintro e w5 ⟨dr, rfl, hLr, hb5⟩
         obtain ⟨e0, e1, e2, e3, e4, e4l, e4c, e5, e5l, e5c, rfl⟩ := hLr.six
         have hV5 : Below v.heap.size v w5 := bstep hV4 hb5 hV4.size
         have hq5 : ∀ b, b < v.heap.size → w5.heap[b]? = v.heap[b]? := fun b hb => hV5.block b hb)
      | (go_at_call 47
         refine (tSame_any (H1.out.later (bstep hwv.out hV5 hwv.out.size)) hLr _ (Below.refl _ _)).mono ?_
         rintro e w6 ⟨rfl, hb6⟩
         have hV6 : Below v.heap.size v w6 := bstep hV5 hb6 hV5.size
         have hq6 : ∀ b, b < v.heap.size → w6.heap[b]? = v.heap[b]? := fun b hb => hV6.block b hb))
  go_wp2_with fail
  go_ret
  exact ⟨rfl, bstep h3.out hV6 (by omega)⟩

end Go.Proofs.Ytfhonjjhladddaa
