/-
  Package path's find.
-/
import Derived.Test.YtbbpipjadniafaaDoorPathG
import Derived.Deep.DeepCutAuto
set_option linter.unusedVariables false
set_option linter.unusedSimpArgs false
namespace Go.Proofs.YtbbpipjadniafaaDoor
open Go.RowKit

/-- A text of a slice, in a later world. -/
theorem SliceS.at {w0 w : World} {ks : List ByteArray} {a : Option Addr} {cap : Nat} (h : SliceS w0 ks a cap) (hw : Below w0.heap.size w0 w) {j : Nat} (hj : j < ks.length) : ∃ b off, a = some ⟨b, off, none⟩ ∧ w.cell? ⟨b, off + j, none⟩ = some (.string ks[j]) := by
  obtain ⟨b, off, e⟩ := h.ofSome (by omega)
  exact ⟨b, off, e, cells_frame hw (h.cell j hj b off e)⟩

/-- Six cells of a box. -/
def Box6 (w : World) (g : Nat) (cs : Array Value) : Prop := ∀ j, j < 6 → w.cell? ⟨g, j, none⟩ = cs[j]?
def Thaw (w : World) (g : Nat) : Prop := ∀ j, w.frozen? ⟨g, j, none⟩ = false
theorem Box6.later {w w' : World} {g : Nat} {cs : Array Value} {B : Nat} (h : Box6 w g cs) (hb : Below B w w') (hg : g < B) : Box6 w' g cs := fun j hj => (hb.cell (p := ⟨g, j, none⟩) hg).trans (h j hj)
theorem Thaw.later {w w' : World} {g : Nat} {B : Nat} (h : Thaw w g) (hb : Below B w w') (hg : g < B) : Thaw w' g := fun j => (hb.frozen (p := ⟨g, j, none⟩) hg).trans (h j)
theorem Box6.six {w : World} {g : Nat} {c0 c1 c2 c3 c4 c5 : Value} (h : Box6 w g #[c0, c1, c2, c3, c4, c5]) : w.cell? ⟨g, 0, none⟩ = some c0 ∧ w.cell? ⟨g, 1, none⟩ = some c1 ∧ w.cell? ⟨g, 2, none⟩ = some c2 ∧ w.cell? ⟨g, 3, none⟩ = some c3 ∧ w.cell? ⟨g, 4, none⟩ = some c4 ∧ w.cell? ⟨g, 5, none⟩ = some c5 :=
  ⟨h 0 (by omega), h 1 (by omega), h 2 (by omega), h 3 (by omega), h 4 (by omega), h 5 (by omega)⟩
theorem Thaw.six {w : World} {g : Nat} (h : Thaw w g) : w.frozen? ⟨g, 0, none⟩ = false ∧ w.frozen? ⟨g, 1, none⟩ = false ∧ w.frozen? ⟨g, 2, none⟩ = false ∧ w.frozen? ⟨g, 3, none⟩ = false ∧ w.frozen? ⟨g, 4, none⟩ = false ∧ w.frozen? ⟨g, 5, none⟩ = false :=
  ⟨h 0, h 1, h 2, h 3, h 4, h 5⟩
theorem Box6.new (w : World) (cs : Array Value) (t : TypeId) : Box6 (w.alloc (.cells cs t)) w.heap.size cs := fun j _ => by rw [World.cell?_alloc_new]
theorem Thaw.new (w : World) (cs : Array Value) (t : TypeId) : Thaw (w.alloc (.cells cs t)) w.heap.size := fun j => by rw [World.frozen?_alloc_new]
/-- .. stored anew. -/
theorem Box6.store {w : World} {g : Nat} {cs : Array Value} (h : Box6 w g cs) (hs : cs.size = 6) (v0 v1 v2 v3 v4 v5 : Value) : Box6 (setRow w g 0 [v0, v1, v2, v3, v4, v5]) g #[v0, v1, v2, v3, v4, v5] := fun j hj => by
  have := setRow_cell g [v0, v1, v2, v3, v4, v5] w 0 (fun i hi => ⟨cs[i]'(by rw [hs]; exact hi), by rw [Nat.zero_add, h i hi]; exact Array.getElem?_eq_getElem (by rw [hs]; exact hi)⟩) j hj
  rw [Nat.zero_add] at this
  rw [this]
  rcases (by omega : j = 0 ∨ j = 1 ∨ j = 2 ∨ j = 3 ∨ j = 4 ∨ j = 5) with rfl | rfl | rfl | rfl | rfl | rfl <;> rfl
theorem Thaw.store {w : World} {g g2 : Nat} (h : Thaw w g) (l : List Value) (o : Nat) : Thaw (setRow w g2 o l) g := fun j => by rw [setRow_frozen]; exact h j
theorem Box6.other {w : World} {g g2 : Nat} {cs : Array Value} (h : Box6 w g cs) (hg : g ≠ g2) (l : List Value) (o : Nat) : Box6 (setRow w g2 o l) g cs := fun j hj => by
  have e := h j hj
  unfold World.cell? at e ⊢
  rw [setRow_heap _ _ _ _ _ hg]
  exact e
theorem Lies.sized {w : World} {R : Nat → Prop} {t : T} {cs : Array Value} (h : Lies w R t cs) : cs.size = 6 := h.size6

set_option maxRecDepth 100000 in
set_option maxHeartbeats 2000000 in
theorem find_any {w0 : World} {R : Nat → Prop} {t : T} {cs : Array Value} {ks : List ByteArray} {sa : Option Addr} {sc : Nat} (h : Lies w0 R t cs) (hS : SliceS w0 ks sa sc) (w : World) (hw : Below w0.heap.size w0 w) :
    Calls Tryd.prog 25 #[.agg cs, .slice sa ks.length sc] w (PartOf w0 R w (atL ks t)) := by
  have H := Lib.hid h
  have HS := Lib.hid hS
  have ll := hS.le
  have lx := hS.big
  obtain ⟨k, b, n, s, la, ll2, lc, ma, ml, mc, rfl⟩ := h.six
  clear h hS
  have hz := w.heap.size
  obtain ⟨dd, hu, hdd⟩ := Tryd.structV
  have DD := Lib.hid hdd
  have HU := Lib.hid hu
  clear hdd hu
  have hq : ((w.alloc (.cells #[.int .i64 k, .bool b, .int .i64 n, .string s, .slice la ll2 lc, .slice ma ml mc] 36)).alloc (.cells zeroV 36)).heap.size = w.heap.size + 2 := by simp
  have hb1 := ((Below.refl w.heap.size w).alloc (Nat.le_refl _) (.cells #[.int .i64 k, .bool b, .int .i64 n, .string s, .slice la ll2 lc, .slice ma ml mc] 36)).alloc (by simp) (.cells zeroV 36)
  have b0 : Box6 ((w.alloc (.cells #[.int .i64 k, .bool b, .int .i64 n, .string s, .slice la ll2 lc, .slice ma ml mc] 36)).alloc (.cells zeroV 36)) w.heap.size #[.int .i64 k, .bool b, .int .i64 n, .string s, .slice la ll2 lc, .slice ma ml mc] := (Box6.new w _ _).later ((Below.refl (w.heap.size + 1) _).alloc (by simp) _) (by omega)
  have t0 : Thaw ((w.alloc (.cells #[.int .i64 k, .bool b, .int .i64 n, .string s, .slice la ll2 lc, .slice ma ml mc] 36)).alloc (.cells zeroV 36)) w.heap.size := (Thaw.new w _ _).later ((Below.refl (w.heap.size + 1) _).alloc (by simp) _) (by omega)
  have b1 := Box6.new (w.alloc (.cells #[.int .i64 k, .bool b, .int .i64 n, .string s, .slice la ll2 lc, .slice ma ml mc] 36)) zeroV 36
  have t1 := Thaw.new (w.alloc (.cells #[.int .i64 k, .bool b, .int .i64 n, .string s, .slice la ll2 lc, .slice ma ml mc] 36)) zeroV 36
  rw [World.size_alloc] at b1 t1
  have HB1 := Lib.hid hb1
  have B0 := Lib.hid b0
  have T0 := Lib.hid t0
  have B1 := Lib.hid b1
  have T1 := Lib.hid t1
  have HQ := Lib.hid hq
  clear hb1 b0 t0 b1 t1 hz hq
  go_enter Tryd.func25, Tryd.ntmps25
  go_wp2_with fail
  go_loopw [6, 11] (fun v6 vi wr => ∃ (j : Nat) (cur : T) (ds : Array Value), j ≤ ks.length ∧ vi = .int .i64 j ∧ v6 = .bool true ∧ Hid (Lies w0 R cur ds) ∧ Hid (atL ks t = atL (ks.drop j) cur) ∧ Hid (Box6 wr w.heap.size ds) ∧ Hid (Thaw wr w.heap.size) ∧ Hid (Box6 wr (w.heap.size + 1) zeroV) ∧ Hid (Thaw wr (w.heap.size + 1)) ∧ Below w.heap.size w wr ∧ w.heap.size + 2 ≤ wr.heap.size) (fun _ vi _ => ks.length - (intOf vi).toNat)
  case atStart => exact ⟨0, t, _, by omega, rfl, rfl, H, rfl, B0, T0, B1, T1, HB1.out, by rw [HQ.out]; exact Nat.le_refl _⟩
  case round =>
    obtain ⟨j, cur, ds, hj, rfl, rfl, HL, HA, HX, HT, HZ, HTZ, hbw, hsz⟩ := hrel
    obtain ⟨d0, d1, d2, d3, d4, d4l, d4c, d5, d5l, d5c, rfl⟩ := HL.out.six
    obtain ⟨x0, x1, x2, x3, x4, x5⟩ := HX.out.six
    have hbr := bstep hw hbw hw.size
    by_cases hjl : j < ks.length
    · obtain ⟨sb, so, rfl, kc⟩ := HS.out.at hbr hjl
      have hc := child_any HL.out ks[j]
      have hat : atL ks t = ((cur.get ks[j]).bind (atL (ks.drop (j + 1)))) := by
        rw [HA.out, List.drop_eq_getElem_cons hjl, atL]
      cases hg : cur.get ks[j] with
      | none =>
        rw [hg] at hc hat
        have HC := Lib.hid hc
        have HAT : Hid (atL ks t = none) := hat
        clear hc hat hg
        go_wp2_with fail
        refine (HC.out wr hbr).mono ?_
        rintro e w3 ⟨es, rfl, hL3, hb3⟩
        obtain ⟨e0, e1, e2, e3, e4, e4l, e4c, e5, e5l, e5c, rfl⟩ := hL3.six
        obtain ⟨z0, z1, z2, z3, z4, z5⟩ := (HX.out.later hb3 (by omega)).six
        obtain ⟨f0, f1, f2, f3, f4, f5⟩ := (HT.out.later hb3 (by omega)).six
        have HZ3 := Lib.hid (HZ.out.later hb3 (by omega))
        have HTZ3 := Lib.hid (HTZ.out.later hb3 (by omega))
        obtain ⟨y0, y1, y2, y3, y4, y5⟩ := HZ3.out.six
        obtain ⟨g0, g1, g2, g3, g4, g5⟩ := HTZ3.out.six
        have hb4 := Lib.hid (bstep hbw hb3 hbw.size)
        clear x0 x1 x2 x3 x4 x5 kc hb3 y0 y1 y2 y3 y4 y5 g0 g1 g2 g3 g4 g5
        go_upto_region 6 with fail
        show Code.wp _ _ _ _ (setRow w3 w.heap.size 0 [.int .i64 e0, .bool e1, .int .i64 e2, .string e3, .slice e4 e4l e4c, .slice e5 e5l e5c])
        have hz4 := HZ3.out.other (g2 := w.heap.size) (by omega) [.int .i64 e0, .bool e1, .int .i64 e2, .string e3, .slice e4 e4l e4c, .slice e5 e5l e5c] 0
        have ht4 := HTZ3.out.store (g2 := w.heap.size) [.int .i64 e0, .bool e1, .int .i64 e2, .string e3, .slice e4 e4l e4c, .slice e5 e5l e5c] 0
        have hb5 := setRow_below w.heap.size (Nat.le_refl _) [.int .i64 e0, .bool e1, .int .i64 e2, .string e3, .slice e4 e4l e4c, .slice e5 e5l e5c] _ 0 hb4.out
        generalize setRow w3 w.heap.size 0 [.int .i64 e0, .bool e1, .int .i64 e2, .string e3, .slice e4 e4l e4c, .slice e5 e5l e5c] = W4 at hz4 ht4 hb5 ⊢
        obtain ⟨y0, y1, y2, y3, y4, y5⟩ := hz4.six
        obtain ⟨g0, g1, g2, g3, g4, g5⟩ := ht4.six
        have HZ4 := Lib.hid hz4
        clear hz4 ht4
        go_wp2_with fail
        rw [HAT.out]
        refine ret_cells_tmp W4 (w.heap.size + 1) [.int .i64 0, .bool false, .int .i64 0, .string ⟨#[]⟩, .slice none 0 0, .slice none 0 0] rfl Tryd.results25 rfl rfl DD.out HU.out Tryd.sizeV (fun i hi => ⟨_, (HZ4.out i hi).trans (Array.getElem?_eq_getElem (show i < 6 from hi))⟩) ?_
        exact ⟨_, rfl, nil_lies _ _, setRow_below _ (by omega) _ _ _ hb5⟩
      | some u =>
        rw [hg] at hc hat
        have HC := Lib.hid hc
        have HAT : Hid (atL ks t = atL (ks.drop (j + 1)) u) := hat
        clear hc hat hg
        go_wp2_with fail
        refine (HC.out wr hbr).mono ?_
        rintro e w3 ⟨es, rfl, hL3, hb3⟩
        obtain ⟨e0, e1, e2, e3, e4, e4l, e4c, e5, e5l, e5c, rfl⟩ := hL3.six
        have HX3 := Lib.hid (HX.out.later hb3 (by omega))
        have HT3 := Lib.hid (HT.out.later hb3 (by omega))
        obtain ⟨z0, z1, z2, z3, z4, z5⟩ := HX3.out.six
        obtain ⟨f0, f1, f2, f3, f4, f5⟩ := HT3.out.six
        have HZ3 := Lib.hid (HZ.out.later hb3 (by omega))
        have HTZ3 := Lib.hid (HTZ.out.later hb3 (by omega))
        have hb4 := Lib.hid (bstep hbw hb3 hbw.size)
        have hs3 := hb3.size
        have HL3 : Hid (Lies w0 R u _) := hL3
        clear x0 x1 x2 x3 x4 x5 kc hb3 hL3
        go_upto_region 6 with fail
        show Code.wp _ _ _ _ (setRow w3 w.heap.size 0 [.int .i64 e0, .bool e1, .int .i64 e2, .string e3, .slice e4 e4l e4c, .slice e5 e5l e5c])
        have hx4 := HX3.out.store rfl (.int .i64 e0) (.bool e1) (.int .i64 e2) (.string e3) (.slice e4 e4l e4c) (.slice e5 e5l e5c)
        have hu4 := HT3.out.store (g2 := w.heap.size) [.int .i64 e0, .bool e1, .int .i64 e2, .string e3, .slice e4 e4l e4c, .slice e5 e5l e5c] 0
        have hz4 := HZ3.out.other (g2 := w.heap.size) (by omega) [.int .i64 e0, .bool e1, .int .i64 e2, .string e3, .slice e4 e4l e4c, .slice e5 e5l e5c] 0
        have ht4 := HTZ3.out.store (g2 := w.heap.size) [.int .i64 e0, .bool e1, .int .i64 e2, .string e3, .slice e4 e4l e4c, .slice e5 e5l e5c] 0
        have hb5 := setRow_below w.heap.size (Nat.le_refl _) [.int .i64 e0, .bool e1, .int .i64 e2, .string e3, .slice e4 e4l e4c, .slice e5 e5l e5c] _ 0 hb4.out
        have hs5 : w.heap.size + 2 ≤ (setRow w3 w.heap.size 0 [.int .i64 e0, .bool e1, .int .i64 e2, .string e3, .slice e4 e4l e4c, .slice e5 e5l e5c]).heap.size := by rw [setRow_size]; omega
        generalize setRow w3 w.heap.size 0 [.int .i64 e0, .bool e1, .int .i64 e2, .string e3, .slice e4 e4l e4c, .slice e5 e5l e5c] = W4 at hz4 ht4 hb5 hx4 hu4 hs5 ⊢
        have HZ4 := Lib.hid hz4
        have HT4 := Lib.hid ht4
        have HX4 := Lib.hid hx4
        have HU4 := Lib.hid hu4
        have HB5 := Lib.hid hb5
        clear hz4 ht4 hx4 hu4 hb5 z0 z1 z2 z3 z4 z5 f0 f1 f2 f3 f4 f5
        go_wp2_with fail
        go_roundw
        case rel => exact ⟨j + 1, u, _, by omega, by go_num, rfl, HL3, HAT, HX4, HU4, HZ4, HT4, HB5.out, hs5⟩
        case measure => simp [intOf]; omega
    · obtain rfl : j = ks.length := by omega
      have HAT : Hid (atL ks t = some cur) := by show _ = _; rw [HA.out, List.drop_length]; rfl
      obtain ⟨y0, y1, y2, y3, y4, y5⟩ := HZ.out.six
      obtain ⟨g0, g1, g2, g3, g4, g5⟩ := HTZ.out.six
      go_wp2_with fail
      rw [HAT.out]
      refine ret_cells_tmp wr (w.heap.size + 1) [.int .i64 d0, .bool d1, .int .i64 d2, .string d3, .slice d4 d4l d4c, .slice d5 d5l d5c] rfl Tryd.results25 rfl rfl DD.out HU.out Tryd.sizeV (fun i hi => ⟨_, (HZ.out i hi).trans (Array.getElem?_eq_getElem (show i < 6 from hi))⟩) ?_
      exact ⟨_, rfl, HL.out, setRow_below _ (by omega) _ _ _ hbw⟩

end Go.Proofs.YtbbpipjadniafaaDoor
