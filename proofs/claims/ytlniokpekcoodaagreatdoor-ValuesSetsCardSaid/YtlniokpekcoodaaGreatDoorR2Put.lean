/-
  The path reference's Put.
-/
import Derived.Test.YtlniokpekcoodaaGreatDoorPathEM
import Derived.Test.YtlniokpekcoodaaGreatDoorSpecsM
set_option linter.unusedVariables false
set_option linter.unusedSimpArgs false
namespace Go.Proofs.YtlniokpekcoodaaGreatDoor
open Go.RowKit Go.Sort

/-- Where all texts but the first begin. -/
def restA (sb so sc : Nat) : Option Addr := if sc = 1 then some ⟨sb, so, none⟩ else some ⟨sb, so + 1, none⟩
theorem rest_texts {w : World} {key : ByteArray} {r : List ByteArray} {sb so sc : Nat} (h : SliceS w (key :: r) (some ⟨sb, so, none⟩) sc) : SliceS w r (restA sb so sc) (sc - 1) := by
  unfold restA
  have hle := h.le
  simp only [List.length_cons] at hle
  by_cases hc : sc = 1
  · rw [if_pos hc]
    have hr : r = [] := List.eq_nil_of_length_eq_zero (by omega)
    subst hr
    exact ⟨by simp, by simp, (fun h => by cases h), (fun h => absurd h (by simp)), by have := h.max; omega, fun i hi => absurd hi (by simp), fun i hi => absurd hi (by simp)⟩
  · rw [if_neg hc]
    have := h.drop1 (by simp)
    simpa using this
theorem find_size {key : ByteArray} {t u : T} (h : findR key t.map = some u) : u.size ≤ t.size := by
  have hm := find_mem h
  obtain ⟨k, b, n, s, l, m⟩ := t
  rw [T.size_mk]
  have h2 : u.size ∈ m.map (fun p => p.2.size) := List.mem_map.2 ⟨_, hm, rfl⟩
  have h3 := le_sum (l := m.map fun p => p.2.size) h2
  omega
theorem findD_size (key : ByteArray) (t : T) : ((findR key t.map).getD T.nil).size ≤ t.size := by
  cases h : findR key t.map with
  | none =>
    obtain ⟨k, b, n, s, l, m⟩ := t
    show T.nil.size ≤ _
    rw [T.nil_size]
    exact T.one_size _
  | some u => exact find_size h
theorem map_size (t : T) : t.map.length ≤ t.size := by
  obtain ⟨k, b, n, s, l, m⟩ := t
  rw [T.size_mk]
  show m.length ≤ _
  have h : ∀ m : Prs, m.length ≤ (m.map fun p => p.2.size).sum := fun m => by
    induction m with
    | nil => simp
    | cons p r ih =>
      have : 1 ≤ p.2.size := T.one_size _
      simp only [List.map_cons, List.sum_cons, List.length_cons]
      omega
  have := h m
  omega
/-- A value, laid: it goes through what was there at first, and what is new. -/
def Laid (w0 w : World) (t : T) (e : Ending) (w' : World) : Prop := ∃ ds, e = .returned (.agg ds) ∧ Lies w' (fun b => b < w0.heap.size ∨ w.heap.size ≤ b) t ds ∧ Below w.heap.size w w'
theorem kind_cell {w : World} {R : Nat → Prop} {t : T} {k : Int} {b : Bool} {n : Int} {s : ByteArray} {la ma : Option Addr} {ll lc ml mc : Nat} (h : Lies w R t #[.int .i64 k, .bool b, .int .i64 n, .string s, .slice la ll lc, .slice ma ml mc]) : t.kind = k := by
  cases h
  rfl

/-- Behind the third statement: v's variable holds a map. -/
def Turned (w0 w w3 : World) (t : T) (wx : World) : Prop := ∃ (t2 : T) (ds : Array Value), Hid (Box6 wx w.heap.size ds) ∧ Hid (Lies w0 (fun b => b < w0.heap.size) t2 ds) ∧ t2.map = (if t.kind = 5 then t.map else []) ∧ Hid (∀ b, b ≠ w.heap.size → wx.heap[b]? = w3.heap[b]?) ∧ Hid (Below w.heap.size w wx) ∧ wx.heap.size = w3.heap.size

set_option maxRecDepth 100000 in
set_option maxHeartbeats 4000000 in
theorem r2Put_nil {w0 : World} {R1 R2 : Nat → Prop} {t x : T} {cs es : Array Value} {sa : Option Addr} {sc : Nat} (h1 : Lies w0 R1 t cs) (h2 : Lies w0 R2 x es) (w : World) (hw : Below w0.heap.size w0 w) :
    Calls Tryz.prog 15 #[.agg cs, .agg es, .slice sa 0 sc] w (Laid w0 w x) := by
    obtain ⟨c0, c1, c2, c3, c4, c4l, c4c, c5, c5l, c5c, rfl⟩ := h1.six
    obtain ⟨x0, x1, x2, x3, x4, x4l, x4c, x5, x5l, x5c, rfl⟩ := h2.six
    obtain ⟨dd, hu, hdd⟩ := Tryz.structV
    have DD := Lib.hid hdd
    have HU := Lib.hid hu
    have H2 := Lib.hid h2.bound
    clear hdd hu h1 h2
    have e2 : ((w.alloc (.cells #[.int .i64 c0, .bool c1, .int .i64 c2, .string c3, .slice c4 c4l c4c, .slice c5 c5l c5c] 25)).alloc (.cells #[.int .i64 x0, .bool x1, .int .i64 x2, .string x3, .slice x4 x4l x4c, .slice x5 x5l x5c] 25)).heap.size = w.heap.size + 1 + 1 := by simp
    have hb3 : Below w.heap.size w (((w.alloc (.cells #[.int .i64 c0, .bool c1, .int .i64 c2, .string c3, .slice c4 c4l c4c, .slice c5 c5l c5c] 25)).alloc (.cells #[.int .i64 x0, .bool x1, .int .i64 x2, .string x3, .slice x4 x4l x4c, .slice x5 x5l x5c] 25)).alloc (.cells zeroV 25)) := (((Below.refl _ _).alloc (Nat.le_refl _) _).alloc (by simp) _).alloc (by simp; omega) _
    have b1 : Box6 (((w.alloc (.cells #[.int .i64 c0, .bool c1, .int .i64 c2, .string c3, .slice c4 c4l c4c, .slice c5 c5l c5c] 25)).alloc (.cells #[.int .i64 x0, .bool x1, .int .i64 x2, .string x3, .slice x4 x4l x4c, .slice x5 x5l x5c] 25)).alloc (.cells zeroV 25)) (w.heap.size + 1) #[.int .i64 x0, .bool x1, .int .i64 x2, .string x3, .slice x4 x4l x4c, .slice x5 x5l x5c] := by
      have := Box6.new (w.alloc (.cells #[.int .i64 c0, .bool c1, .int .i64 c2, .string c3, .slice c4 c4l c4c, .slice c5 c5l c5c] 25)) #[.int .i64 x0, .bool x1, .int .i64 x2, .string x3, .slice x4 x4l x4c, .slice x5 x5l x5c] 25
      rw [World.size_alloc] at this
      exact this.later ((Below.refl (w.heap.size + 1 + 1) _).alloc (by simp) _) (by omega)
    have b2 := Box6.new ((w.alloc (.cells #[.int .i64 c0, .bool c1, .int .i64 c2, .string c3, .slice c4 c4l c4c, .slice c5 c5l c5c] 25)).alloc (.cells #[.int .i64 x0, .bool x1, .int .i64 x2, .string x3, .slice x4 x4l x4c, .slice x5 x5l x5c] 25)) zeroV 25
    have t2 := Thaw.new ((w.alloc (.cells #[.int .i64 c0, .bool c1, .int .i64 c2, .string c3, .slice c4 c4l c4c, .slice c5 c5l c5c] 25)).alloc (.cells #[.int .i64 x0, .bool x1, .int .i64 x2, .string x3, .slice x4 x4l x4c, .slice x5 x5l x5c] 25)) zeroV 25
    rw [e2] at b2 t2
    have HB3 := Lib.hid hb3
    have B2 := Lib.hid b2
    obtain ⟨y0, y1, y2, y3, y4, y5⟩ := b1.six
    obtain ⟨z0, z1, z2, z3, z4, z5⟩ := b2.six
    obtain ⟨f0, f1, f2, f3, f4, f5⟩ := t2.six
    clear e2 hb3 b1 b2 t2
    go_enter Tryz.func15, Tryz.ntmps15
    go_upto_region 1 with fail
    generalize (((w.alloc (.cells #[.int .i64 c0, .bool c1, .int .i64 c2, .string c3, .slice c4 c4l c4c, .slice c5 c5l c5c] 25)).alloc (.cells #[.int .i64 x0, .bool x1, .int .i64 x2, .string x3, .slice x4 x4l x4c, .slice x5 x5l x5c] 25)).alloc (.cells zeroV 25)) = v at *
    go_wp2_with fail
    refine ret_cells v (w.heap.size + 1 + 1) [.int .i64 x0, .bool x1, .int .i64 x2, .string x3, .slice x4 x4l x4c, .slice x5 x5l x5c] rfl Tryz.results15 rfl rfl DD.out HU.out Tryz.sizeV (fun i hi => ⟨_, (B2.out i hi).trans (Array.getElem?_eq_getElem (show i < 6 from hi))⟩) ?_
    have hbf := setRow_below (w.heap.size + 1 + 1) (by omega) [.int .i64 x0, .bool x1, .int .i64 x2, .string x3, .slice x4 x4l x4c, .slice x5 x5l x5c] v 0 HB3.out
    have hbg := bstep hw hbf hw.size
    generalize setRow v (w.heap.size + 1 + 1) 0 [.int .i64 x0, .bool x1, .int .i64 x2, .string x3, .slice x4 x4l x4c, .slice x5 x5l x5c] = v2 at *
    exact ⟨_, rfl, (H2.out.later hbg).weaken (fun b hb => .inl hb.2), hbf⟩

def PutsAt (r : List ByteArray) : Prop := ∀ {w0 : World} {R1 R2 : Nat → Prop} {t x : T} {cs es : Array Value} {sa : Option Addr} {sc : Nat} (h1 : Lies w0 R1 t cs) (h2 : Lies w0 R2 x es) (hS : SliceS w0 r sa sc) (hsz : t.size ≤ 1000000) (w : World) (hw : Below w0.heap.size w0 w),
    Calls Tryz.prog 15 #[.agg cs, .agg es, .slice sa r.length sc] w (Laid w0 w (putQ r t x))
set_option maxRecDepth 100000 in
set_option maxHeartbeats 4000000 in
theorem r2Put_cons {key : ByteArray} {r : List ByteArray} (IH : Hid (PutsAt r)) : PutsAt (key :: r) := by
    intro w0 R1 R2 t xT cs es sa sc h1 h2 hS hsz w hw
    obtain ⟨c0, c1, c2, c3, c4, c4l, c4c, c5, c5l, c5c, rfl⟩ := h1.six
    obtain ⟨x0, x1, x2, x3, x4, x4l, x4c, x5, x5l, x5c, rfl⟩ := h2.six
    obtain ⟨sb, so, rfl⟩ := hS.ofSome (by simp)
    have kc := hS.cell 0 (by simp) sb so rfl
    have kc : w0.cell? ⟨sb, so, none⟩ = some (.string key) := by simpa using kc
    have hsb : sb < w0.heap.size := World.block_lt_of_cell? _ _ kc
    have hkey := hS.sizes 0 (by simp)
    have hkey : key.size ≤ 140737488355328 := by simpa using hkey
    obtain ⟨dd, hu, hdd⟩ := Tryz.structV
    have DD := Lib.hid hdd
    have HU := Lib.hid hu
    have H1 := Lib.hid h1
    have H2 := Lib.hid h2
    have HS := Lib.hid hS
    have KC := Lib.hid kc
    have HKEY := Lib.hid hkey
    have hsc := hS.le
    have hsbig := hS.big
    have HW := Lib.hid hw
    have hw0 := hw.size
    clear hdd hu h1 h2 hS kc hkey
    have e2 : ((w.alloc (.cells #[.int .i64 c0, .bool c1, .int .i64 c2, .string c3, .slice c4 c4l c4c, .slice c5 c5l c5c] 25)).alloc (.cells #[.int .i64 x0, .bool x1, .int .i64 x2, .string x3, .slice x4 x4l x4c, .slice x5 x5l x5c] 25)).heap.size = w.heap.size + 1 + 1 := by simp
    have hb3 : Below w.heap.size w (((w.alloc (.cells #[.int .i64 c0, .bool c1, .int .i64 c2, .string c3, .slice c4 c4l c4c, .slice c5 c5l c5c] 25)).alloc (.cells #[.int .i64 x0, .bool x1, .int .i64 x2, .string x3, .slice x4 x4l x4c, .slice x5 x5l x5c] 25)).alloc (.cells zeroV 25)) := (((Below.refl _ _).alloc (Nat.le_refl _) _).alloc (by simp) _).alloc (by simp; omega) _
    have b0 : Box6 (((w.alloc (.cells #[.int .i64 c0, .bool c1, .int .i64 c2, .string c3, .slice c4 c4l c4c, .slice c5 c5l c5c] 25)).alloc (.cells #[.int .i64 x0, .bool x1, .int .i64 x2, .string x3, .slice x4 x4l x4c, .slice x5 x5l x5c] 25)).alloc (.cells zeroV 25)) w.heap.size #[.int .i64 c0, .bool c1, .int .i64 c2, .string c3, .slice c4 c4l c4c, .slice c5 c5l c5c] := (Box6.new w #[.int .i64 c0, .bool c1, .int .i64 c2, .string c3, .slice c4 c4l c4c, .slice c5 c5l c5c] 25).later (((Below.refl (w.heap.size + 1) _).alloc (by simp) _).alloc (by simp) _) (by omega)
    have t0 : Thaw (((w.alloc (.cells #[.int .i64 c0, .bool c1, .int .i64 c2, .string c3, .slice c4 c4l c4c, .slice c5 c5l c5c] 25)).alloc (.cells #[.int .i64 x0, .bool x1, .int .i64 x2, .string x3, .slice x4 x4l x4c, .slice x5 x5l x5c] 25)).alloc (.cells zeroV 25)) w.heap.size := (Thaw.new w #[.int .i64 c0, .bool c1, .int .i64 c2, .string c3, .slice c4 c4l c4c, .slice c5 c5l c5c] 25).later (((Below.refl (w.heap.size + 1) _).alloc (by simp) _).alloc (by simp) _) (by omega)
    have b1 : Box6 (((w.alloc (.cells #[.int .i64 c0, .bool c1, .int .i64 c2, .string c3, .slice c4 c4l c4c, .slice c5 c5l c5c] 25)).alloc (.cells #[.int .i64 x0, .bool x1, .int .i64 x2, .string x3, .slice x4 x4l x4c, .slice x5 x5l x5c] 25)).alloc (.cells zeroV 25)) (w.heap.size + 1) #[.int .i64 x0, .bool x1, .int .i64 x2, .string x3, .slice x4 x4l x4c, .slice x5 x5l x5c] := by
      have := Box6.new (w.alloc (.cells #[.int .i64 c0, .bool c1, .int .i64 c2, .string c3, .slice c4 c4l c4c, .slice c5 c5l c5c] 25)) #[.int .i64 x0, .bool x1, .int .i64 x2, .string x3, .slice x4 x4l x4c, .slice x5 x5l x5c] 25
      rw [World.size_alloc] at this
      exact this.later ((Below.refl (w.heap.size + 1 + 1) _).alloc (by simp) _) (by omega)
    have b2 := Box6.new ((w.alloc (.cells #[.int .i64 c0, .bool c1, .int .i64 c2, .string c3, .slice c4 c4l c4c, .slice c5 c5l c5c] 25)).alloc (.cells #[.int .i64 x0, .bool x1, .int .i64 x2, .string x3, .slice x4 x4l x4c, .slice x5 x5l x5c] 25)) zeroV 25
    have t2 := Thaw.new ((w.alloc (.cells #[.int .i64 c0, .bool c1, .int .i64 c2, .string c3, .slice c4 c4l c4c, .slice c5 c5l c5c] 25)).alloc (.cells #[.int .i64 x0, .bool x1, .int .i64 x2, .string x3, .slice x4 x4l x4c, .slice x5 x5l x5c] 25)) zeroV 25
    rw [e2] at b2 t2
    have es3 : (((w.alloc (.cells #[.int .i64 c0, .bool c1, .int .i64 c2, .string c3, .slice c4 c4l c4c, .slice c5 c5l c5c] 25)).alloc (.cells #[.int .i64 x0, .bool x1, .int .i64 x2, .string x3, .slice x4 x4l x4c, .slice x5 x5l x5c] 25)).alloc (.cells zeroV 25)).heap.size = w.heap.size + 3 := by simp
    have HB3 := Lib.hid hb3
    have B0 := Lib.hid b0
    have T0 := Lib.hid t0
    have B1 := Lib.hid b1
    have B2 := Lib.hid b2
    have T2 := Lib.hid t2
    have ES3 := Lib.hid es3
    have hl : ((r.length : Int) + 1 == 0) = false := by rw [beq_eq_false_iff_ne]; omega
    clear e2 hb3 b0 t0 b1 b2 t2 es3
    go_enter Tryz.func15, Tryz.ntmps15
    go_upto_region 1 with fail
    generalize (((w.alloc (.cells #[.int .i64 c0, .bool c1, .int .i64 c2, .string c3, .slice c4 c4l c4c, .slice c5 c5l c5c] 25)).alloc (.cells #[.int .i64 x0, .bool x1, .int .i64 x2, .string x3, .slice x4 x4l x4c, .slice x5 x5l x5c] 25)).alloc (.cells zeroV 25)) = v at *
    have hvs := Nat.le_of_eq ES3.out.symm
    have hwv := bstep hw HB3.out hw.size
    have HWV := Lib.hid hwv
    have kv := cells_frame hwv KC.out
    have KV := Lib.hid kv
    have GT : Hid (∀ w', Below v.heap.size v w' → Calls Tryz.prog 34 #[.agg #[.int .i64 c0, .bool c1, .int .i64 c2, .string c3, .slice c4 c4l c4c, .slice c5 c5l c5c], .string key] w' (RGot w0 R1 w' (findR key t.map))) := fun w' hw' => rGet_any H1.out key w' (bstep HWV.out hw' HWV.out.size)
    have SK : Hid (∀ wx : World, Below v.heap.size v wx → wx.cell? ⟨w.heap.size, 0, none⟩ = some (.int .i64 c0) ∧ wx.cell? ⟨w.heap.size, 1, none⟩ = some (.bool c1) ∧ wx.cell? ⟨w.heap.size, 2, none⟩ = some (.int .i64 c2) ∧ wx.cell? ⟨w.heap.size, 3, none⟩ = some (.string c3) ∧ wx.cell? ⟨w.heap.size, 4, none⟩ = some (.slice c4 c4l c4c) ∧ wx.cell? ⟨w.heap.size, 5, none⟩ = some (.slice c5 c5l c5c) ∧ wx.cell? ⟨sb, so, none⟩ = some (.string key)) := fun wx hx => by
      obtain ⟨q0, q1, q2, q3, q4, q5⟩ := (B0.out.later hx (by omega)).six
      exact ⟨q0, q1, q2, q3, q4, q5, cells_frame hx KV.out⟩
    have REF : Hid (Below v.heap.size v v) := Below.refl _ _
    clear hwv kv
    go_upto_region 3 with fail
    have SKC : ∀ (wx : World) (g : Nat) (v0 v1 v2 v3 v4 v5 : Value) (bb j : Nat), g ≠ bb → ((((((wx.setCell ⟨g, 0, none⟩ v0).setCell ⟨g, 1, none⟩ v1).setCell ⟨g, 2, none⟩ v2).setCell ⟨g, 3, none⟩ v3).setCell ⟨g, 4, none⟩ v4).setCell ⟨g, 5, none⟩ v5).cell? ⟨bb, j, none⟩ = wx.cell? ⟨bb, j, none⟩ := fun wx g v0 v1 v2 v3 v4 v5 bb j hg => by
      rw [World.cell?_setCell_other _ _ _ _ (by intro e; have := congrArg Addr.block e; simp only at this; omega), World.cell?_setCell_other _ _ _ _ (by intro e; have := congrArg Addr.block e; simp only at this; omega), World.cell?_setCell_other _ _ _ _ (by intro e; have := congrArg Addr.block e; simp only at this; omega), World.cell?_setCell_other _ _ _ _ (by intro e; have := congrArg Addr.block e; simp only at this; omega), World.cell?_setCell_other _ _ _ _ (by intro e; have := congrArg Addr.block e; simp only at this; omega), World.cell?_setCell_other _ _ _ _ (by intro e; have := congrArg Addr.block e; simp only at this; omega)]
    have SK2 : Hid (∀ (wx : World) (g : Nat) (v0 v1 v2 v3 v4 v5 : Value), g ≠ w.heap.size → g ≠ sb → wx.cell? ⟨w.heap.size, 0, none⟩ = some (.int .i64 c0) ∧ wx.cell? ⟨w.heap.size, 1, none⟩ = some (.bool c1) ∧ wx.cell? ⟨w.heap.size, 2, none⟩ = some (.int .i64 c2) ∧ wx.cell? ⟨w.heap.size, 3, none⟩ = some (.string c3) ∧ wx.cell? ⟨w.heap.size, 4, none⟩ = some (.slice c4 c4l c4c) ∧ wx.cell? ⟨w.heap.size, 5, none⟩ = some (.slice c5 c5l c5c) ∧ wx.cell? ⟨sb, so, none⟩ = some (.string key) → ((((((wx.setCell ⟨g, 0, none⟩ v0).setCell ⟨g, 1, none⟩ v1).setCell ⟨g, 2, none⟩ v2).setCell ⟨g, 3, none⟩ v3).setCell ⟨g, 4, none⟩ v4).setCell ⟨g, 5, none⟩ v5).cell? ⟨w.heap.size, 0, none⟩ = some (.int .i64 c0) ∧ ((((((wx.setCell ⟨g, 0, none⟩ v0).setCell ⟨g, 1, none⟩ v1).setCell ⟨g, 2, none⟩ v2).setCell ⟨g, 3, none⟩ v3).setCell ⟨g, 4, none⟩ v4).setCell ⟨g, 5, none⟩ v5).cell? ⟨w.heap.size, 1, none⟩ = some (.bool c1) ∧ ((((((wx.setCell ⟨g, 0, none⟩ v0).setCell ⟨g, 1, none⟩ v1).setCell ⟨g, 2, none⟩ v2).setCell ⟨g, 3, none⟩ v3).setCell ⟨g, 4, none⟩ v4).setCell ⟨g, 5, none⟩ v5).cell? ⟨w.heap.size, 2, none⟩ = some (.int .i64 c2) ∧ ((((((wx.setCell ⟨g, 0, none⟩ v0).setCell ⟨g, 1, none⟩ v1).setCell ⟨g, 2, none⟩ v2).setCell ⟨g, 3, none⟩ v3).setCell ⟨g, 4, none⟩ v4).setCell ⟨g, 5, none⟩ v5).cell? ⟨w.heap.size, 3, none⟩ = some (.string c3) ∧ ((((((wx.setCell ⟨g, 0, none⟩ v0).setCell ⟨g, 1, none⟩ v1).setCell ⟨g, 2, none⟩ v2).setCell ⟨g, 3, none⟩ v3).setCell ⟨g, 4, none⟩ v4).setCell ⟨g, 5, none⟩ v5).cell? ⟨w.heap.size, 4, none⟩ = some (.slice c4 c4l c4c) ∧ ((((((wx.setCell ⟨g, 0, none⟩ v0).setCell ⟨g, 1, none⟩ v1).setCell ⟨g, 2, none⟩ v2).setCell ⟨g, 3, none⟩ v3).setCell ⟨g, 4, none⟩ v4).setCell ⟨g, 5, none⟩ v5).cell? ⟨w.heap.size, 5, none⟩ = some (.slice c5 c5l c5c) ∧ ((((((wx.setCell ⟨g, 0, none⟩ v0).setCell ⟨g, 1, none⟩ v1).setCell ⟨g, 2, none⟩ v2).setCell ⟨g, 3, none⟩ v3).setCell ⟨g, 4, none⟩ v4).setCell ⟨g, 5, none⟩ v5).cell? ⟨sb, so, none⟩ = some (.string key)) := fun wx g v0 v1 v2 v3 v4 v5 hg hg2 h => by
      simp only [SKC _ _ _ _ _ _ _ _ _ _ hg, SKC _ _ _ _ _ _ _ _ _ _ hg2]
      exact h
    clear SKC
    go_cut [7, 8] (fun p q wx => ∃ (g : Nat) (es : Array Value), p = .pointer (some ⟨g, 0, none⟩) ∧ q = .bool (findR key t.map).isSome ∧ Hid (Box6 wx g es) ∧ Hid (Lies wx (fun b => R1 b ∧ b < w0.heap.size) ((findR key t.map).getD T.nil) es) ∧ g < wx.heap.size ∧ v.heap.size ≤ g ∧ Below v.heap.size v wx)
    case first =>
      go_region_held3 (fun wx : World => wx.cell? ⟨w.heap.size, 0, none⟩ = some (.int .i64 c0) ∧ wx.cell? ⟨w.heap.size, 1, none⟩ = some (.bool c1) ∧ wx.cell? ⟨w.heap.size, 2, none⟩ = some (.int .i64 c2) ∧ wx.cell? ⟨w.heap.size, 3, none⟩ = some (.string c3) ∧ wx.cell? ⟨w.heap.size, 4, none⟩ = some (.slice c4 c4l c4c) ∧ wx.cell? ⟨w.heap.size, 5, none⟩ = some (.slice c5 c5l c5c) ∧ wx.cell? ⟨sb, so, none⟩ = some (.string key))
        (first
          | with_reducible exact SK2.out _ _ _ _ _ _ _ _ (by omega) (by omega) (SK.out _ hV5)
          | with_reducible exact SK.out _ hV5
          | with_reducible exact SK.out _ (bbox hV5 _ hV5.size)
          | exact SK.out _ (Below.refl _ _).drew
          | exact SK.out _ (bbox (Below.refl _ _) _ (Nat.le_refl _)).drew
          | exact SK.out _ ((bbox (Below.refl _ _) _ (Nat.le_refl _)))
          | fail)
        (first
         | (go_at_call 34
            with_reducible refine (GT.out _ (REF.out.drew)).mono ?_
            rintro e w5 ⟨es, rfl, hL5, hb5⟩
            obtain ⟨d0, d1, d2, d3, d4, d4l, d4c, d5, d5l, d5c, rfl⟩ := hL5.six
            have hV5 : Below v.heap.size v w5 := undrew hb5
            have hs5 := hV5.size)
         | (go_at_call 34
            refine (GT.out _ (bbox REF.out (.cells zeroV 25) REF.out.size).drew).mono ?_
            rintro e w5 ⟨es, rfl, hL5, hb5⟩
            obtain ⟨d0, d1, d2, d3, d4, d4l, d4c, d5, d5l, d5c, rfl⟩ := hL5.six
            have hV5 : Below v.heap.size v w5 := bunbox (undrew hb5) (Nat.le_refl _) (by simp)
            have hs5 : v.heap.size + 1 ≤ w5.heap.size := by have := hb5.size; simp only [World.size_drew, World.size_alloc] at this; omega
            have Z5 := Lib.hid ((Box6.new v zeroV 25).later (undrew hb5) (by simp))
            obtain ⟨z0, z1, z2, z3, z4, z5⟩ := Z5.out.six
            obtain ⟨f0, f1, f2, f3, f4, f5⟩ := ((Thaw.new v zeroV 25).later (undrew hb5) (by simp)).six))
      · go_wp2_with fail
        go_meet
        case rel => exact ⟨w5.heap.size, _, rfl, rfl, Box6.new w5 _ 25, (hL5.later ((Below.refl _ w5).alloc (Nat.le_refl _) _)).weaken (fun _ hq => hq), by simp, hs5, bbox hV5 _ hV5.size⟩
      · go_wp2_with fail
        go_meet
        case rel => exact ⟨v.heap.size, _, rfl, rfl, Z5.out.store rfl _ _ _ _ _ _, (hL5.keep (w' := setRow w5 v.heap.size 0 [.int .i64 d0, .bool d1, .int .i64 d2, .string d3, .slice d4 d4l d4c, .slice d5 d5l d5c]) (fun bb hb => setRow_heap _ _ _ _ _ (by have := hb.2; omega))).weaken (fun _ hq => hq), by show _ < (setRow w5 v.heap.size 0 [.int .i64 d0, .bool d1, .int .i64 d2, .string d3, .slice d4 d4l d4c, .slice d5 d5l d5c]).heap.size; rw [setRow_size]; omega, Nat.le_refl _, setRow_below v.heap.size (Nat.le_refl _) [.int .i64 d0, .bool d1, .int .i64 d2, .string d3, .slice d4 d4l d4c, .slice d5 d5l d5c] w5 0 hV5⟩
    case rest =>
      obtain ⟨g1, es1, rfl, rfl, HG1, HL1, hg1, hgv, hb3⟩ := hcut
      obtain ⟨w3, rfl⟩ : ∃ w3 : World, w3 = wc := ⟨_, rfl⟩
      obtain ⟨e0, e1, e2, e3, e4, e4l, e4c, e5, e5l, e5c, rfl⟩ := HL1.out.six
      have hs3 := hb3.size
      have HB4 := Lib.hid hb3
      have hin : Lies w0 (fun b => R1 b ∧ b < w0.heap.size) ((findR key t.map).getD T.nil) #[.int .i64 e0, .bool e1, .int .i64 e2, .string e3, .slice e4 e4l e4c, .slice e5 e5l e5c] := HL1.out.keep (w' := w0) (fun b hb => ((bstep HWV.out HB4.out HWV.out.size).block b hb.2).symm)
      have HIN := Lib.hid hin
      have BX := Lib.hid (B1.out.later hb3 (by omega))
      have BZ := Lib.hid (B2.out.later hb3 (by omega))
      have TZ := Lib.hid (T2.out.later hb3 (by omega))
      have BV := Lib.hid (B0.out.later hb3 (by omega))
      have TV := Lib.hid (T0.out.later hb3 (by omega))
      have HW3 := Lib.hid (bstep HB3.out hb3 HB3.out.size)
      have K3 := Lib.hid (cells_frame hb3 KV.out)
      have htk : t.kind = c0 := kind_cell H1.out
      have HTK := Lib.hid htk
      clear hin hb3 htk GT SK SK2 REF
      obtain ⟨a0, a1, a2, a3, a4, a5⟩ := BV.out.six
      obtain ⟨f0, f1, f2, f3, f4, f5⟩ := TV.out.six
      go_upto_region 4 with fail
      go_upto_if 23 with fail
      go_cut [24] (fun q24 wx => Turned w0 w w3 t wx)
      case first =>
        by_cases h5 : c0 = 5
        · have hk : (c0 != 5) = false := by rw [h5]; rfl
          have FA : Turned w0 w w3 t w3 := ⟨t, _, BV, H1.out.bound.weaken fun _ h => h.2, by rw [HTK.out, h5, if_pos rfl], fun _ _ => rfl, HW3, rfl⟩
          have FH := Lib.hid FA
          clear FA h5
          go_wp2_with fail
          go_meet
          case rel => exact FH.out
        · have hk : (c0 != 5) = true := by rw [bne_iff_ne]; exact h5
          have FA : Turned w0 w w3 t (setRow w3 w.heap.size 0 [.int .i64 5, .bool false, .int .i64 0, .string ⟨#[]⟩, .slice none 0 0, .slice none 0 0]) := ⟨.mk 5 false 0 ⟨#[]⟩ [] [], #[.int .i64 5, .bool false, .int .i64 0, .string ⟨#[]⟩, .slice none 0 0, .slice none 0 0], BV.out.store rfl _ _ _ _ _ _, Lies.of_slices (m := []) wf5 wf0 empty_size (empty_sliceV _ _) (empty_sliceP _ _), by rw [HTK.out, if_neg h5]; rfl, fun b hb => setRow_heap _ [.int .i64 5, .bool false, .int .i64 0, .string ⟨#[]⟩, .slice none 0 0, .slice none 0 0] _ _ _ hb, setRow_below _ (Nat.le_refl _) [.int .i64 5, .bool false, .int .i64 0, .string ⟨#[]⟩, .slice none 0 0, .slice none 0 0] _ _ HW3.out, setRow_size _ [.int .i64 5, .bool false, .int .i64 0, .string ⟨#[]⟩, .slice none 0 0, .slice none 0 0] _ _⟩
          have FH := Lib.hid FA
          clear FA h5
          go_wp2_with fail
          go_meet
          case rel => exact FH.out
      case rest =>
        obtain ⟨t2, ds, HBD, HT2, htm, HK6, HBW, hsz6⟩ := hcut
        obtain ⟨u, rfl⟩ : ∃ u : World, u = wc := ⟨_, rfl⟩
        obtain ⟨d0, d1, d2, d3, d4, d4l, d4c, d5, d5l, d5c, rfl⟩ := HT2.out.six
        have hk6 := HK6.out
        have BX6 := Lib.hid (BX.out.same (hk6 _ (by omega)))
        have BZ6 := Lib.hid (BZ.out.same (hk6 _ (by omega)))
        have TZ6 := Lib.hid (TZ.out.same (hk6 _ (by omega)))
        have BG6 := Lib.hid (HG1.out.same (hk6 _ (by omega)))
        have hus : w.heap.size + 3 ≤ u.heap.size := by omega
        have hgu : g1 < u.heap.size := by omega
        have k6 : u.cell? ⟨sb, so, none⟩ = some (.string key) := (World.cell?_of_block (hk6 sb (by omega))).trans K3.out
        obtain ⟨d0', d1', d2', d3', d4', d5'⟩ := HBD.out.six
        obtain ⟨x0', x1', x2', x3', x4', x5'⟩ := BX6.out.six
        obtain ⟨e0', e1', e2', e3', e4', e5'⟩ := BG6.out.six
        have HWU := Lib.hid (bstep HW.out HBW.out HW.out.size)
        have HTM := Lib.hid htm
        have hn2 : t2.map.length ≤ 1000000 := by
          rw [HTM.out]
          have := map_size t
          split
          · omega
          · simp
        obtain ⟨inT, hinT⟩ : ∃ inT, inT = (findR key t.map).getD T.nil := ⟨_, rfl⟩
        have HINT := Lib.hid hinT
        have hins : inT.size ≤ 1000000 := by
          rw [HINT.out]
          exact Nat.le_trans (findD_size key t) hsz
        rw [← hinT] at HIN
        have IH6 : Hid (∀ w', Below u.heap.size u w' → Calls Tryz.prog 15 #[.agg #[.int .i64 e0, .bool e1, .int .i64 e2, .string e3, .slice e4 e4l e4c, .slice e5 e5l e5c], .agg #[.int .i64 x0, .bool x1, .int .i64 x2, .string x3, .slice x4 x4l x4c, .slice x5 x5l x5c], .slice (restA sb so sc) r.length (sc - 1)] w' (Laid w0 w' (putQ r inT xT))) := fun w' hw' => IH.out HIN.out H2.out (rest_texts HS.out) hins w' (bstep HWU.out hw' HWU.out.size)
        have PU6 : Hid (∀ (wb : World) (y : T) (ys : Array Value), Below u.heap.size u wb → Lies wb (fun b => b < w0.heap.size ∨ u.heap.size ≤ b) y ys → Calls Tryz.prog 35 #[.agg #[.int .i64 d0, .bool d1, .int .i64 d2, .string d3, .slice d4 d4l d4c, .slice d5 d5l d5c], .string key, .agg ys] wb fun e w' => ∃ vs, e = .returned (.agg vs) ∧ Lies w' (fun b => b < w0.heap.size ∨ u.heap.size ≤ b) (mk5 (rputG key y false t2.map)) vs ∧ Below wb.heap.size wb w') := fun wb y ys hwb hL => by
          refine (rPut_any (HT2.out.later (bstep HWU.out hwb HWU.out.size)) hL key HKEY.out hn2 wb (Below.refl _ _)).mono ?_
          rintro e w' ⟨vs, he, hv, hb⟩
          have hs := hwb.size
          refine ⟨vs, he, hv.weaken fun b hb => ?_, hb⟩
          rcases hb with ⟨h | h, _⟩ | h
          · exact .inl h
          · exact h
          · exact .inr (by omega)
        have hle := HS.out.le
        have hsc0 : 1 ≤ sc := by simp only [List.length_cons] at hle; omega
        have hI2 : (r.length : Int) + 1 ≤ (sc : Int) := by simp only [List.length_cons] at hle; omega
        have hI1 : (1 : Int) ≤ (r.length : Int) + 1 := by omega
        have hI3 : (sc : Int) ≤ (sc : Int) := Int.le_refl _
        clear hle hinT htm hk6 hsz6 a0 a1 a2 a3 a4 a5 f0 f1 f2 f3 f4 f5
        go_upto_region 6 with fail
        refine wp_region_specs2 u 10 (fun i => 25 + i) (fun i x wx => match i with | 0 => x = .agg #[.int .i64 d0, .bool d1, .int .i64 d2, .string d3, .slice d4 d4l d4c, .slice d5 d5l d5c] | 1 => x = .slice (some ⟨sb, so, none⟩) (r.length + 1) sc | 2 => x = .pointer (some ⟨sb, so, none⟩) | 3 => x = .string key | 4 => x = .agg #[.int .i64 e0, .bool e1, .int .i64 e2, .string e3, .slice e4 e4l e4c, .slice e5 e5l e5c] | 5 => x = .agg #[.int .i64 x0, .bool x1, .int .i64 x2, .string x3, .slice x4 x4l x4c, .slice x5 x5l x5c] | 6 => x = .slice (some ⟨sb, so, none⟩) (r.length + 1) sc | 7 => x = .slice (restA sb so sc) r.length (sc - 1) | 8 => ∃ ds : Array Value, x = .agg ds ∧ Lies wx (fun b => b < w0.heap.size ∨ u.heap.size ≤ b) (putQ r inT xT) ds | 9 => ∃ ds : Array Value, x = .agg ds ∧ Lies wx (fun b => b < w0.heap.size ∨ u.heap.size ≤ b) (mk5 (rputG key (putQ r inT xT) false t2.map)) ds | _ => True) (fun _ wx => ∃ (vs : List Value) (wb : World), vs.length = 6 ∧ Below u.heap.size u wb ∧ Lies wb (fun b => b < w0.heap.size ∨ u.heap.size ≤ b) (mk5 (rputG key (putQ r inT xT) false t2.map)) vs.toArray ∧ wx = setRow wb (w.heap.size + 1 + 1) 0 vs) (by kernel_rfl) (by kernel_rfl) ?s1 (Below.refl _ _) ?s2 ?s3 ?s4 ?s5
        case s1 => intro i hi; exact Nat.lt_of_lt_of_le (show 25 + i < 35 by omega) (Nat.le_refl 35)
        case s2 =>
          intro i x w1 w2 hb hU
          match i, hU with
          | 7, h => exact h
          | 8, ⟨ds, e, hL⟩ => exact ⟨ds, e, hL.later hb⟩
          | 9, ⟨ds, e, hL⟩ => exact ⟨ds, e, hL.later hb⟩
          | 0, h | 1, h | 2, h | 3, h | 4, h | 5, h | 6, h => exact h
          | (n + 10), _ => trivial
        case s3 =>
          intro i o ac wb K' ho hi hA hB hdep hK
          have sv2 : ac.tmps[2]?.getD undef = .slice (some ⟨sb, so, none⟩) (r.length + 1) sc := hA.sl (t := 2) (by decide)
          have sv3 : ac.tmps[3]?.getD undef = .pointer (some ⟨w.heap.size, 0, none⟩) := hA.sl (t := 3) (by decide)
          have sv4 : ac.tmps[4]?.getD undef = .pointer (some ⟨w.heap.size + 1, 0, none⟩) := hA.sl (t := 4) (by decide)
          have sv7 : ac.tmps[7]?.getD undef = .pointer (some ⟨g1, 0, none⟩) := hA.sl (t := 7) (by decide)
          have sv6 : ac.tmps[6]?.getD undef = .pointer (some ⟨w.heap.size + 1 + 1, 0, none⟩) := hA.sl (t := 6) (by decide)
          have d0' := cells_frame hB d0'
          have d1' := cells_frame hB d1'
          have d2' := cells_frame hB d2'
          have d3' := cells_frame hB d3'
          have d4' := cells_frame hB d4'
          have d5' := cells_frame hB d5'
          have x0' := cells_frame hB x0'
          have x1' := cells_frame hB x1'
          have x2' := cells_frame hB x2'
          have x3' := cells_frame hB x3'
          have x4' := cells_frame hB x4'
          have x5' := cells_frame hB x5'
          have e0' := cells_frame hB e0'
          have e1' := cells_frame hB e1'
          have e2' := cells_frame hB e2'
          have e3' := cells_frame hB e3'
          have e4' := cells_frame hB e4'
          have e5' := cells_frame hB e5'
          have k6 := cells_frame hB k6
          rcases (by omega : i = 0 ∨ i = 1 ∨ i = 2 ∨ i = 3 ∨ i = 4 ∨ i = 5 ∨ i = 6 ∨ i = 7 ∨ i = 8 ∨ i = 9) with rfl | rfl | rfl | rfl | rfl | rfl | rfl | rfl | rfl | rfl
          · simp at ho
            subst ho
            clear hdep hA
            go_simp
            exact hK _ wb (Below.refl _ _) rfl
          · simp at ho
            subst ho
            clear hdep hA
            go_simp
            exact hK _ wb (Below.refl _ _) rfl
          · simp at ho
            subst ho
            have y1 : ac.tmps[26]?.getD undef = .slice (some ⟨sb, so, none⟩) (r.length + 1) sc := hdep { on := 1, ground := .data } (by simp) rfl
            clear hdep hA
            go_simp
            exact hK _ wb (Below.refl _ _) rfl
          · simp at ho
            subst ho
            have y2 : ac.tmps[27]?.getD undef = .pointer (some ⟨sb, so, none⟩) := hdep { on := 2, ground := .data } (by simp) rfl
            clear hdep hA
            go_simp
            exact hK _ wb (Below.refl _ _) rfl
          · simp at ho
            subst ho
            clear hdep hA
            go_simp
            exact hK _ wb (Below.refl _ _) rfl
          · simp at ho
            subst ho
            clear hdep hA
            go_simp
            exact hK _ wb (Below.refl _ _) rfl
          · simp at ho
            subst ho
            clear hdep hA
            go_simp
            exact hK _ wb (Below.refl _ _) rfl
          · simp at ho
            subst ho
            have y6 : ac.tmps[31]?.getD undef = .slice (some ⟨sb, so, none⟩) (r.length + 1) sc := hdep { on := 6, ground := .data } (by simp) rfl
            clear hdep hA
            by_cases hc1 : sc = 1
            · have hx : (some ⟨sb, so, none⟩ : Option Addr) = restA sb so sc := by rw [restA, if_pos hc1]
              have hc2 : (sc = 1) = True := by simp [hc1]
              go_simp
              exact hK _ wb (Below.refl _ _) (by first | rfl | simp [restA, hc1])
            · have hx : (some ⟨sb, so + 1, none⟩ : Option Addr) = restA sb so sc := by rw [restA, if_neg hc1]
              have hc2 : (sc = 1) = False := by simp [hc1]
              go_simp
              exact hK _ wb (Below.refl _ _) rfl
          · simp at ho
            subst ho
            have y4 : ac.tmps[29]?.getD undef = .agg #[.int .i64 e0, .bool e1, .int .i64 e2, .string e3, .slice e4 e4l e4c, .slice e5 e5l e5c] := hdep { on := 4, ground := .data } (by simp) rfl
            have y5 : ac.tmps[30]?.getD undef = .agg #[.int .i64 x0, .bool x1, .int .i64 x2, .string x3, .slice x4 x4l x4c, .slice x5 x5l x5c] := hdep { on := 5, ground := .data } (by simp) rfl
            have y7 : ac.tmps[32]?.getD undef = .slice (restA sb so sc) r.length (sc - 1) := hdep { on := 7, ground := .data } (by simp) rfl
            clear hdep hA
            go_simp
            refine (IH6.out wb hB).mono ?_
            rintro e w5 ⟨vs, rfl, hL, hb5⟩
            exact hK _ w5 hb5 ⟨vs, rfl, hL.weaken fun b hb => hb.imp id fun h => Nat.le_trans hB.size h⟩
          · simp at ho
            subst ho
            have y0 : ac.tmps[25]?.getD undef = .agg #[.int .i64 d0, .bool d1, .int .i64 d2, .string d3, .slice d4 d4l d4c, .slice d5 d5l d5c] := hdep { on := 0, ground := .data } (by simp) rfl
            have y3 : ac.tmps[28]?.getD undef = .string key := hdep { on := 3, ground := .data } (by simp) rfl
            obtain ⟨dsy8, y8, hLy8⟩ := hdep { on := 8, ground := .data } (by simp) rfl
            obtain ⟨j0, j1, j2, j3, j4, j4l, j4c, j5, j5l, j5c, rfl⟩ := hLy8.six
            have y8 : ac.tmps[33]?.getD undef = _ := y8
            clear hdep hA
            go_simp
            refine (PU6.out wb _ _ hB hLy8).mono ?_
            rintro e w5 ⟨vs, rfl, hL, hb5⟩
            exact hK _ w5 hb5 ⟨vs, rfl, hL⟩
        case s4 =>
          intro o ac wb K' ho hA hB hU hK
          have sv2 : ac.tmps[2]?.getD undef = .slice (some ⟨sb, so, none⟩) (r.length + 1) sc := hA.sl (t := 2) (by decide)
          have sv3 : ac.tmps[3]?.getD undef = .pointer (some ⟨w.heap.size, 0, none⟩) := hA.sl (t := 3) (by decide)
          have sv4 : ac.tmps[4]?.getD undef = .pointer (some ⟨w.heap.size + 1, 0, none⟩) := hA.sl (t := 4) (by decide)
          have sv7 : ac.tmps[7]?.getD undef = .pointer (some ⟨g1, 0, none⟩) := hA.sl (t := 7) (by decide)
          have sv6 : ac.tmps[6]?.getD undef = .pointer (some ⟨w.heap.size + 1 + 1, 0, none⟩) := hA.sl (t := 6) (by decide)
          have d0' := cells_frame hB d0'
          have d1' := cells_frame hB d1'
          have d2' := cells_frame hB d2'
          have d3' := cells_frame hB d3'
          have d4' := cells_frame hB d4'
          have d5' := cells_frame hB d5'
          have x0' := cells_frame hB x0'
          have x1' := cells_frame hB x1'
          have x2' := cells_frame hB x2'
          have x3' := cells_frame hB x3'
          have x4' := cells_frame hB x4'
          have x5' := cells_frame hB x5'
          have e0' := cells_frame hB e0'
          have e1' := cells_frame hB e1'
          have e2' := cells_frame hB e2'
          have e3' := cells_frame hB e3'
          have e4' := cells_frame hB e4'
          have e5' := cells_frame hB e5'
          have k6 := cells_frame hB k6
          simp at ho
          subst ho
          obtain ⟨dsy9, y9, hLy9⟩ := hU 9 (by omega)
          obtain ⟨m0, m1, m2, m3, m4, m4l, m4c, m5, m5l, m5c, rfl⟩ := hLy9.six
          have y9 : ac.tmps[34]?.getD undef = _ := y9
          clear hU hA
          obtain ⟨c0', c1', c2', c3', c4', c5'⟩ := (BZ6.out.later hB (by omega)).six
          obtain ⟨f0, f1, f2, f3, f4, f5⟩ := (TZ6.out.later hB (by omega)).six
          go_simp
          exact hK _ ⟨[.int .i64 m0, .bool m1, .int .i64 m2, .string m3, .slice m4 m4l m4c, .slice m5 m5l m5c], wb, rfl, hB, hLy9, rfl⟩
        case s5 =>
          intro ac wn hA hF
          have hs : slots 10 (fun i => 25 + i) = [25, 26, 27, 28, 29, 30, 31, 32, 33, 34] := by rfl
          rw [hs] at hA
          have hac := hA.act (fun t ht => by
            have h8 : t = 25 ∨ t = 26 ∨ t = 27 ∨ t = 28 ∨ t = 29 ∨ t = 30 ∨ t = 31 ∨ t = 32 ∨ t = 33 ∨ t = 34 := by simpa using ht
            rcases h8 with rfl | rfl | rfl | rfl | rfl | rfl | rfl | rfl | rfl | rfl <;> exact Nat.lt_of_lt_of_le (by decide : _ < 35) (Nat.le_refl 35))
          rw [List.foldl_cons, List.foldl_cons, List.foldl_cons, List.foldl_cons, List.foldl_cons, List.foldl_cons, List.foldl_cons, List.foldl_cons, List.foldl_cons, List.foldl_cons, List.foldl_nil] at hac
          generalize sl ac 25 = x25 at hac
          generalize sl ac 26 = x26 at hac
          generalize sl ac 27 = x27 at hac
          generalize sl ac 28 = x28 at hac
          generalize sl ac 29 = x29 at hac
          generalize sl ac 30 = x30 at hac
          generalize sl ac 31 = x31 at hac
          generalize sl ac 32 = x32 at hac
          generalize sl ac 33 = x33 at hac
          generalize sl ac 34 = x34 at hac
          clear hA hs
          subst hac
          simp only [Act.put, List.setIfInBounds_toArray, List.set_cons_succ, List.set_cons_zero]
          obtain ⟨vs, w7, hlen, hb7, hl7, rfl⟩ := hF
          have H7 := Lib.hid hb7
          have L7 := Lib.hid hl7
          have HLEN := Lib.hid hlen
          have BR7 := Lib.hid (BZ6.out.later hb7 (by omega))
          have htm := HTM.out
          clear hb7 hl7 hlen
          generalize hW : setRow w7 (w.heap.size + 1 + 1) 0 vs = W7
          have HW7 := Lib.hid hW.symm
          clear hW
          go_wp2_with fail
          refine ret_cells w7 (w.heap.size + 1 + 1) vs HW7.out Tryz.results15 rfl rfl DD.out HU.out (by rw [HLEN.out]; exact Tryz.sizeV) (fun i hi => ⟨_, (BR7.out i (by rw [← HLEN.out]; exact hi)).trans (Array.getElem?_eq_getElem (show i < 6 by rw [← HLEN.out]; exact hi))⟩) ?_
          have hq : putQ (key :: r) t xT = mk5 (rputG key (putQ r inT xT) false t2.map) := by rw [putQ, htm, HINT.out]; rfl
          rw [hq]
          have hs7 := H7.out.size
          exact ⟨_, rfl, (L7.out.keep (fun b hb => setRow_heap _ _ _ _ _ (by omega))).weaken (fun b hb => by omega), setRow_below _ (by omega) _ _ _ (bstep HBW.out H7.out HBW.out.size)⟩

theorem r2Put_any : ∀ ks : List ByteArray, PutsAt ks
  | [] => fun h1 h2 _ _ w hw => r2Put_nil h1 h2 w hw
  | _ :: r => r2Put_cons (Lib.hid (r2Put_any r))

end Go.Proofs.YtlniokpekcoodaaGreatDoor
