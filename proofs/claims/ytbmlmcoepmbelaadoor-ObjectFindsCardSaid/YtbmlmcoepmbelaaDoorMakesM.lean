/-
  What package tree makes of plain things: nothing, a truth, a text, a list.
-/
import Derived.Test.YtbmlmcoepmbelaaDoorMapTopM
import Derived.Test.YtbmlmcoepmbelaaDoorObjC
import Derived.Test.YtbmlmcoepmbelaaDoorGet
set_option linter.unusedVariables false
set_option linter.unusedSimpArgs false
namespace Go.Proofs.YtbmlmcoepmbelaaDoor
open Go.RowKit Go.Sort

theorem tStr_any (s : ByteArray) (w : World) : Calls Tryd.prog 48 #[.string s] w fun e w' => e = .returned (.agg #[.int .i64 3, .bool false, .int .i64 0, .string s, .slice none 0 0, .slice none 0 0]) ∧ Below w.heap.size w w' := by
  go_enter Tryd.func48, Tryd.ntmps48
  go_wp2_with fail
  obtain ⟨dd, hu, hdd⟩ := Tryd.structV
  refine ret_read w.heap.size #[.int .i64 3, .bool false, .int .i64 0, .string s, .slice none 0 0, .slice none 0 0] Tryd.results48 rfl rfl hdd hu Tryd.sizeV (fun i hi => by rw [World.cell?_alloc_new]; exact Array.getElem?_eq_getElem hi) ?_
  exact ⟨rfl, (Below.refl _ _).alloc (Nat.le_refl _) _⟩

theorem one_boxV {w w1 : World} {cs : Array Value} {ty : TypeId} (h : Below (w.alloc (.cells cs ty)).heap.size (w.alloc (.cells cs ty)) w1) :
    (∀ j, w1.cell? ⟨w.heap.size, j, none⟩ = cs[j]?) ∧ (∀ j, w1.frozen? ⟨w.heap.size, j, none⟩ = false) :=
  ⟨fun j => by rw [h.cell (p := ⟨w.heap.size, j, none⟩) (by simp), World.cell?_alloc_new], fun j => by rw [h.frozen (p := ⟨w.heap.size, j, none⟩) (by simp), World.frozen?_alloc_new]⟩

def T.listOf (ts : List T) : T := .mk 4 false 0 ⟨#[]⟩ ts []
def MadeL (w : World) (ts : List T) (e : Ending) (w' : World) : Prop := ∃ ds, e = .returned (.agg ds) ∧ Lies w' (fun b => w.heap.size ≤ b) (T.listOf ts) ds ∧ Below w.heap.size w w'
theorem wf4 : (Lit.int .i64 4).wf = true := by decide

end Go.Proofs.YtbmlmcoepmbelaaDoor

/-
  A box of six cells, in a world.
-/
set_option linter.unusedVariables false
set_option linter.unusedSimpArgs false
namespace Go.Proofs.YtbmlmcoepmbelaaDoor
open Go.RowKit

abbrev zeroV : Array Value := #[.int .i64 0, .bool false, .int .i64 0, .string ⟨#[]⟩, .slice none 0 0, .slice none 0 0]
/-- Six cells of a box. -/
def Box6 (w : World) (g : Nat) (cs : Array Value) : Prop := ∀ j, j < 6 → w.cell? ⟨g, j, none⟩ = cs[j]?
def Thaw (w : World) (g : Nat) : Prop := ∀ j, w.frozen? ⟨g, j, none⟩ = false
theorem Box6.later {w w' : World} {g : Nat} {cs : Array Value} {B : Nat} (h : Box6 w g cs) (hb : Below B w w') (hg : g < B) : Box6 w' g cs := fun j hj => (hb.cell (p := ⟨g, j, none⟩) hg).trans (h j hj)
theorem Thaw.later {w w' : World} {g : Nat} {B : Nat} (h : Thaw w g) (hb : Below B w w') (hg : g < B) : Thaw w' g := fun j => (hb.frozen (p := ⟨g, j, none⟩) hg).trans (h j)
theorem Box6.six {w : World} {g : Nat} {c0 c1 c2 c3 c4 c5 : Value} (h : Box6 w g #[c0, c1, c2, c3, c4, c5]) : w.cell? ⟨g, 0, none⟩ = some c0 ∧ w.cell? ⟨g, 1, none⟩ = some c1 ∧ w.cell? ⟨g, 2, none⟩ = some c2 ∧ w.cell? ⟨g, 3, none⟩ = some c3 ∧ w.cell? ⟨g, 4, none⟩ = some c4 ∧ w.cell? ⟨g, 5, none⟩ = some c5 :=
  ⟨h 0 (by omega), h 1 (by omega), h 2 (by omega), h 3 (by omega), h 4 (by omega), h 5 (by omega)⟩
theorem Thaw.six {w : World} {g : Nat} (h : Thaw w g) : w.frozen? ⟨g, 0, none⟩ = false ∧ w.frozen? ⟨g, 1, none⟩ = false ∧ w.frozen? ⟨g, 2, none⟩ = false ∧ w.frozen? ⟨g, 3, none⟩ = false ∧ w.frozen? ⟨g, 4, none⟩ = false ∧ w.frozen? ⟨g, 5, none⟩ = false :=
  ⟨h 0, h 1, h 2, h 3, h 4, h 5⟩
theorem Box6.new (w : World) (cs : Array Value) (t : TypeId) : Box6 (w.alloc (.cells cs t)) w.heap.size cs := fun j _ => by rw [World.cell?_alloc_new]
theorem Thaw.new (w : World) (cs : Array Value) (t : TypeId) : Thaw (w.alloc (.cells cs t)) w.heap.size := fun j => by rw [World.frozen?_alloc_new]
/-- .. stored anew. -/
theorem Box6.store {w : World} {g : Nat} {cs : Array Value} (h : Box6 w g cs) (hs : cs.size = 6) (v0 v1 v2 v3 v4 v5 : Value) : Box6 (setRow w g 0 [v0, v1, v2, v3, v4, v5]) g #[v0, v1, v2, v3, v4, v5] := fun j hj => by
  have := setRow_cell g [v0, v1, v2, v3, v4, v5] w 0 (fun i hi => ⟨cs[i]'(by rw [hs]; exact hi), by rw [Nat.zero_add, h i hi]; exact Array.getElem?_eq_getElem (by rw [hs]; exact hi)⟩) j hj
  rw [Nat.zero_add] at this
  rw [this]
  rcases (by omega : j = 0 ∨ j = 1 ∨ j = 2 ∨ j = 3 ∨ j = 4 ∨ j = 5) with rfl | rfl | rfl | rfl | rfl | rfl <;> rfl
theorem Thaw.store {w : World} {g g2 : Nat} (h : Thaw w g) (l : List Value) (o : Nat) : Thaw (setRow w g2 o l) g := fun j => by rw [setRow_frozen]; exact h j
theorem Box6.other {w : World} {g g2 : Nat} {cs : Array Value} (h : Box6 w g cs) (hg : g ≠ g2) (l : List Value) (o : Nat) : Box6 (setRow w g2 o l) g cs := fun j hj => by
  have e := h j hj
  unfold World.cell? at e ⊢
  rw [setRow_heap _ _ _ _ _ hg]
  exact e

theorem Box6.cells {w : World} {g : Nat} {cs : Array Value} (h : Box6 w g cs) (hs : cs.size = 6) : ∀ i, i < 6 → ∃ u, w.cell? ⟨g, i, none⟩ = some u := fun i hi => ⟨_, (h i hi).trans (Array.getElem?_eq_getElem (by rw [hs]; exact hi))⟩

end Go.Proofs.YtbmlmcoepmbelaaDoor

/-
  What a document tells of itself: package object's text, metadata.
-/
set_option linter.unusedVariables false
set_option linter.unusedSimpArgs false
namespace Go.Proofs.YtbmlmcoepmbelaaDoor
open Go.RowKit Go.Sort

/-- A text itself, and empty of all else. -/
def txtC (k : Int) (s : ByteArray) : ByteArray := if k = 3 then s else ⟨#[]⟩
def txtO (t : T) : ByteArray := txtC t.kind t.str
def kKind : ByteArray := ⟨#[107, 105, 110, 100]⟩
def kMeta : ByteArray := ⟨#[109, 101, 116, 97, 100, 97, 116, 97]⟩
def kName : ByteArray := ⟨#[110, 97, 109, 101]⟩
def kSpace : ByteArray := ⟨#[110, 97, 109, 101, 115, 112, 97, 99, 101]⟩
def kHook : ByteArray := ⟨#[104, 111, 111, 107]⟩
def kDefault : ByteArray := ⟨#[100, 101, 102, 97, 117, 108, 116]⟩
def kRelease : ByteArray := ⟨#[82, 101, 108, 101, 97, 115, 101]⟩
def metaO (t : T) : T := (t.get kMeta).getD T.nil
def kindO (t : T) : ByteArray := txtO ((t.get kKind).getD T.nil)
def nameO (t : T) : ByteArray := txtO (((metaO t).get kName).getD T.nil)
def spaceD : Option T → ByteArray
  | none => kDefault
  | some u => txtO u
def spaceO (t : T) : ByteArray := spaceD ((metaO t).get kSpace)
def hookO (t : T) : ByteArray := txtO (((metaO t).get kHook).getD T.nil)

theorem lies_flat {w : World} {R : Nat → Prop} {t : T} {k : Int} {b : Bool} {n : Int} {s : ByteArray} {la ma : Option Addr} {ll lc ml mc : Nat} (h : Lies w R t #[.int .i64 k, .bool b, .int .i64 n, .string s, .slice la ll lc, .slice ma ml mc]) : t.kind = k ∧ t.str = s ∧ s.size ≤ 140737488355328 := by
  cases h
  exact ⟨rfl, rfl, by assumption⟩

theorem otext_any (k : Int) (b : Bool) (n : Int) (s : ByteArray) (la : Option Addr) (ll lc : Nat) (ma : Option Addr) (ml mc : Nat) (w : World) :
    Calls Tryd.prog 32 #[.agg #[.int .i64 k, .bool b, .int .i64 n, .string s, .slice la ll lc, .slice ma ml mc]] w fun e w' => e = .returned (.string (txtC k s)) ∧ Below w.heap.size w w' := by
  by_cases h : k = 3
  · have HR : Hid (txtC k s = s) := by show _ = _; rw [txtC, if_pos h]
    subst h
    go_enter Tryd.func32, Tryd.ntmps32
    go_wp2_with fail
    go_ret
    rw [HR.out]
    exact ⟨rfl, (Below.refl _ _).alloc (Nat.le_refl _) _⟩
  · have HR : Hid (txtC k s = ⟨#[]⟩) := by show _ = _; rw [txtC, if_neg h]
    have hq : (k != 3) = true := by rw [bne_iff_ne]; exact h
    go_enter Tryd.func32, Tryd.ntmps32
    go_wp2_with fail
    go_ret
    rw [HR.out]
    exact ⟨rfl, (Below.refl _ _).alloc (Nat.le_refl _) _⟩
theorem otext_lies {w0 : World} {R : Nat → Prop} {t : T} {cs : Array Value} (h : Lies w0 R t cs) (w : World) :
    Calls Tryd.prog 32 #[.agg cs] w fun e w' => e = .returned (.string (txtO t)) ∧ Below w.heap.size w w' := by
  obtain ⟨c0, c1, c2, c3, c4, c4l, c4c, c5, c5l, c5c, rfl⟩ := h.six
  obtain ⟨h1, h2, -⟩ := lies_flat h
  rw [txtO, h1, h2]
  exact otext_any _ _ _ _ _ _ _ _ _ _ _

set_option maxRecDepth 100000 in
theorem ometadata_any {w0 : World} {R : Nat → Prop} {t : T} {cs : Array Value} (h : Lies w0 R t cs) (w : World) (hw : Below w0.heap.size w0 w) :
    Calls Tryd.prog 31 #[.agg cs] w (Cloned w (metaO t)) := by
  obtain ⟨c0, c1, c2, c3, c4, c4l, c4c, c5, c5l, c5c, rfl⟩ := h.six
  obtain ⟨dd, hu, hdd⟩ := Tryd.structV
  have DD := Lib.hid hdd
  have HU := Lib.hid hu
  have H := Lib.hid h
  clear hdd hu h
  have e1 : (w.alloc (.cells #[.int .i64 c0, .bool c1, .int .i64 c2, .string c3, .slice c4 c4l c4c, .slice c5 c5l c5c] 25)).heap.size = w.heap.size + 1 := by simp
  have hb2 : Below w.heap.size w ((w.alloc (.cells #[.int .i64 c0, .bool c1, .int .i64 c2, .string c3, .slice c4 c4l c4c, .slice c5 c5l c5c] 25)).alloc (.cells zeroV 25)) := ((Below.refl _ _).alloc (Nat.le_refl _) _).alloc (by simp) _
  have b0 : Box6 ((w.alloc (.cells #[.int .i64 c0, .bool c1, .int .i64 c2, .string c3, .slice c4 c4l c4c, .slice c5 c5l c5c] 25)).alloc (.cells zeroV 25)) w.heap.size #[.int .i64 c0, .bool c1, .int .i64 c2, .string c3, .slice c4 c4l c4c, .slice c5 c5l c5c] := (Box6.new w #[.int .i64 c0, .bool c1, .int .i64 c2, .string c3, .slice c4 c4l c4c, .slice c5 c5l c5c] 25).later ((Below.refl (w.heap.size + 1) _).alloc (by simp) _) (by omega)
  have b1 := Box6.new (w.alloc (.cells #[.int .i64 c0, .bool c1, .int .i64 c2, .string c3, .slice c4 c4l c4c, .slice c5 c5l c5c] 25)) zeroV 25
  have t1 := Thaw.new (w.alloc (.cells #[.int .i64 c0, .bool c1, .int .i64 c2, .string c3, .slice c4 c4l c4c, .slice c5 c5l c5c] 25)) zeroV 25
  rw [e1] at b1 t1
  have es : ((w.alloc (.cells #[.int .i64 c0, .bool c1, .int .i64 c2, .string c3, .slice c4 c4l c4c, .slice c5 c5l c5c] 25)).alloc (.cells zeroV 25)).heap.size = w.heap.size + 2 := by simp
  have HB2 := Lib.hid hb2
  have B1 := Lib.hid b1
  have T1 := Lib.hid t1
  have ES := Lib.hid es
  obtain ⟨x0, x1, x2, x3, x4, x5⟩ := b0.six
  clear e1 hb2 b0 b1 t1 es
  go_enter Tryd.func31, Tryd.ntmps31
  go_upto_region 1 with fail
  generalize ((w.alloc (.cells #[.int .i64 c0, .bool c1, .int .i64 c2, .string c3, .slice c4 c4l c4c, .slice c5 c5l c5c] 25)).alloc (.cells zeroV 25)) = v at *
  go_upto_region 2 with (go_at_call 30; refine (tGet_any H.out kMeta v (bstep hw HB2.out hw.size)).mono ?_; rintro e w3 ⟨ds, rfl, hl, hb3⟩; obtain ⟨d0, d1, d2, d3, d4, d4l, d4c, d5, d5l, d5c, rfl⟩ := hl.six; have HL := Lib.hid hl; have HB3 := Lib.hid hb3; clear hl hb3)
  have hb4 := HB3.out.alloc HB3.out.size (.cells #[.int .i64 d0, .bool d1, .int .i64 d2, .string d3, .slice d4 d4l d4c, .slice d5 d5l d5c] 25)
  have b4 := Box6.new w3 #[.int .i64 d0, .bool d1, .int .i64 d2, .string d3, .slice d4 d4l d4c, .slice d5 d5l d5c] 25
  have hl4 := HL.out.later ((Below.refl w3.heap.size w3).alloc (Nat.le_refl _) (.cells #[.int .i64 d0, .bool d1, .int .i64 d2, .string d3, .slice d4 d4l d4c, .slice d5 d5l d5c] 25))
  clear x0 x1 x2 x3 x4 x5
  generalize w3.alloc (.cells #[.int .i64 d0, .bool d1, .int .i64 d2, .string d3, .slice d4 d4l d4c, .slice d5 d5l d5c] 25) = v4 at *
  have HL4 := Lib.hid hl4
  have hvs := Nat.le_of_eq ES.out.symm
  have B14 := Lib.hid (B1.out.later hb4 (by omega))
  obtain ⟨z0, z1, z2, z3, z4, z5⟩ := B14.out.six
  obtain ⟨f0, f1, f2, f3, f4, f5⟩ := (T1.out.later hb4 (by omega)).six
  obtain ⟨x0, x1, x2, x3, x4, x5⟩ := b4.six
  have HB4 := Lib.hid (bstep HB2.out hb4 HB2.out.size)
  clear hl4 hb4 b4
  go_wp2_with fail
  refine ret_cells v4 (w.heap.size + 1) [.int .i64 d0, .bool d1, .int .i64 d2, .string d3, .slice d4 d4l d4c, .slice d5 d5l d5c] rfl Tryd.results31 rfl rfl DD.out HU.out Tryd.sizeV (fun i hi => ⟨_, (B14.out i hi).trans (Array.getElem?_eq_getElem (show i < 6 from hi))⟩) ?_
  have hbf := setRow_below (w.heap.size + 1) (by omega) [.int .i64 d0, .bool d1, .int .i64 d2, .string d3, .slice d4 d4l d4c, .slice d5 d5l d5c] v4 0 HB4.out
  exact ⟨_, rfl, (HL4.out.keep (w' := setRow v4 (w.heap.size + 1) 0 [.int .i64 d0, .bool d1, .int .i64 d2, .string d3, .slice d4 d4l d4c, .slice d5 d5l d5c]) (fun b hb => setRow_heap _ _ _ _ _ (by omega))).weaken (fun b hb => by omega), hbf⟩

end Go.Proofs.YtbmlmcoepmbelaaDoor
