/-
  What a document tells of itself: package object's text, metadata.
-/
import Derived.Test.YtbmlmcoepmbelaaDoorObjC
import Derived.Test.YtbmlmcoepmbelaaDoorGet
import Derived.Test.YtbmlmcoepmbelaaDoorMakesM
set_option linter.unusedVariables false
set_option linter.unusedSimpArgs false
namespace Go.Proofs.YtbmlmcoepmbelaaDoor
open Go.RowKit Go.Sort

/-- A text itself, and empty of all else. -/
def txtC (k : Int) (s : ByteArray) : ByteArray := if k = 3 then s else ⟨#[]⟩
def txtO (t : T) : ByteArray := txtC t.kind t.str
def kKind : ByteArray := ⟨#[107, 105, 110, 100]⟩
def kMeta : ByteArray := ⟨#[109, 101, 116, 97, 100, 97, 116, 97]⟩
def kName : ByteArray := ⟨#[110, 97, 109, 101]⟩
def kSpace : ByteArray := ⟨#[110, 97, 109, 101, 115, 112, 97, 99, 101]⟩
def kHook : ByteArray := ⟨#[104, 111, 111, 107]⟩
def kDefault : ByteArray := ⟨#[100, 101, 102, 97, 117, 108, 116]⟩
def kRelease : ByteArray := ⟨#[82, 101, 108, 101, 97, 115, 101]⟩
def metaO (t : T) : T := (t.get kMeta).getD T.nil
def kindO (t : T) : ByteArray := txtO ((t.get kKind).getD T.nil)
def nameO (t : T) : ByteArray := txtO (((metaO t).get kName).getD T.nil)
def spaceD : Option T → ByteArray
  | none => kDefault
  | some u => txtO u
def spaceO (t : T) : ByteArray := spaceD ((metaO t).get kSpace)
def hookO (t : T) : ByteArray := txtO (((metaO t).get kHook).getD T.nil)

theorem lies_flat {w : World} {R : Nat → Prop} {t : T} {k : Int} {b : Bool} {n : Int} {s : ByteArray} {la ma : Option Addr} {ll lc ml mc : Nat} (h : Lies w R t #[.int .i64 k, .bool b, .int .i64 n, .string s, .slice la ll lc, .slice ma ml mc]) : t.kind = k ∧ t.str = s ∧ s.size ≤ 140737488355328 := by
  cases h
  exact ⟨rfl, rfl, by assumption⟩

theorem otext_any (k : Int) (b : Bool) (n : Int) (s : ByteArray) (la : Option Addr) (ll lc : Nat) (ma : Option Addr) (ml mc : Nat) (w : World) :
    Calls Tryd.prog 32 #[.agg #[.int .i64 k, .bool b, .int .i64 n, .string s, .slice la ll lc, .slice ma ml mc]] w fun e w' => e = .returned (.string (txtC k s)) ∧ Below w.heap.size w w' := by
  by_cases h : k = 3
  · have HR : Hid (txtC k s = s) := by show _ = _; rw [txtC, if_pos h]
    subst h
    go_enter Tryd.func32, Tryd.ntmps32
    go_wp2_with fail
    go_ret
    rw [HR.out]
    exact ⟨rfl, (Below.refl _ _).alloc (Nat.le_refl _) _⟩
  · have HR : Hid (txtC k s = ⟨#[]⟩) := by show _ = _; rw [txtC, if_neg h]
    have hq : (k != 3) = true := by rw [bne_iff_ne]; exact h
    go_enter Tryd.func32, Tryd.ntmps32
    go_wp2_with fail
    go_ret
    rw [HR.out]
    exact ⟨rfl, (Below.refl _ _).alloc (Nat.le_refl _) _⟩
theorem otext_lies {w0 : World} {R : Nat → Prop} {t : T} {cs : Array Value} (h : Lies w0 R t cs) (w : World) :
    Calls Tryd.prog 32 #[.agg cs] w fun e w' => e = .returned (.string (txtO t)) ∧ Below w.heap.size w w' := by
  obtain ⟨c0, c1, c2, c3, c4, c4l, c4c, c5, c5l, c5c, rfl⟩ := h.six
  obtain ⟨h1, h2, -⟩ := lies_flat h
  rw [txtO, h1, h2]
  exact otext_any _ _ _ _ _ _ _ _ _ _ _

set_option maxRecDepth 100000 in
theorem ometadata_any {w0 : World} {R : Nat → Prop} {t : T} {cs : Array Value} (h : Lies w0 R t cs) (w : World) (hw : Below w0.heap.size w0 w) :
    Calls Tryd.prog 31 #[.agg cs] w (Cloned w (metaO t)) := by
  obtain ⟨c0, c1, c2, c3, c4, c4l, c4c, c5, c5l, c5c, rfl⟩ := h.six
  obtain ⟨dd, hu, hdd⟩ := Tryd.structV
  have DD := Lib.hid hdd
  have HU := Lib.hid hu
  have H := Lib.hid h
  clear hdd hu h
  have e1 : (w.alloc (.cells #[.int .i64 c0, .bool c1, .int .i64 c2, .string c3, .slice c4 c4l c4c, .slice c5 c5l c5c] 25)).heap.size = w.heap.size + 1 := by simp
  have hb2 : Below w.heap.size w ((w.alloc (.cells #[.int .i64 c0, .bool c1, .int .i64 c2, .string c3, .slice c4 c4l c4c, .slice c5 c5l c5c] 25)).alloc (.cells zeroV 25)) := ((Below.refl _ _).alloc (Nat.le_refl _) _).alloc (by simp) _
  have b0 : Box6 ((w.alloc (.cells #[.int .i64 c0, .bool c1, .int .i64 c2, .string c3, .slice c4 c4l c4c, .slice c5 c5l c5c] 25)).alloc (.cells zeroV 25)) w.heap.size #[.int .i64 c0, .bool c1, .int .i64 c2, .string c3, .slice c4 c4l c4c, .slice c5 c5l c5c] := (Box6.new w #[.int .i64 c0, .bool c1, .int .i64 c2, .string c3, .slice c4 c4l c4c, .slice c5 c5l c5c] 25).later ((Below.refl (w.heap.size + 1) _).alloc (by simp) _) (by omega)
  have b1 := Box6.new (w.alloc (.cells #[.int .i64 c0, .bool c1, .int .i64 c2, .string c3, .slice c4 c4l c4c, .slice c5 c5l c5c] 25)) zeroV 25
  have t1 := Thaw.new (w.alloc (.cells #[.int .i64 c0, .bool c1, .int .i64 c2, .string c3, .slice c4 c4l c4c, .slice c5 c5l c5c] 25)) zeroV 25
  rw [e1] at b1 t1
  have es : ((w.alloc (.cells #[.int .i64 c0, .bool c1, .int .i64 c2, .string c3, .slice c4 c4l c4c, .slice c5 c5l c5c] 25)).alloc (.cells zeroV 25)).heap.size = w.heap.size + 2 := by simp
  have HB2 := Lib.hid hb2
  have B1 := Lib.hid b1
  have T1 := Lib.hid t1
  have ES := Lib.hid es
  obtain ⟨x0, x1, x2, x3, x4, x5⟩ := b0.six
  clear e1 hb2 b0 b1 t1 es
  go_enter Tryd.func31, Tryd.ntmps31
  go_upto_region 1 with fail
  generalize ((w.alloc (.cells #[.int .i64 c0, .bool c1, .int .i64 c2, .string c3, .slice c4 c4l c4c, .slice c5 c5l c5c] 25)).alloc (.cells zeroV 25)) = v at *
  go_upto_region 2 with (go_at_call 30; refine (tGet_any H.out kMeta v (bstep hw HB2.out hw.size)).mono ?_; rintro e w3 ⟨ds, rfl, hl, hb3⟩; obtain ⟨d0, d1, d2, d3, d4, d4l, d4c, d5, d5l, d5c, rfl⟩ := hl.six; have HL := Lib.hid hl; have HB3 := Lib.hid hb3; clear hl hb3)
  have hb4 := HB3.out.alloc HB3.out.size (.cells #[.int .i64 d0, .bool d1, .int .i64 d2, .string d3, .slice d4 d4l d4c, .slice d5 d5l d5c] 25)
  have b4 := Box6.new w3 #[.int .i64 d0, .bool d1, .int .i64 d2, .string d3, .slice d4 d4l d4c, .slice d5 d5l d5c] 25
  have hl4 := HL.out.later ((Below.refl w3.heap.size w3).alloc (Nat.le_refl _) (.cells #[.int .i64 d0, .bool d1, .int .i64 d2, .string d3, .slice d4 d4l d4c, .slice d5 d5l d5c] 25))
  clear x0 x1 x2 x3 x4 x5
  generalize w3.alloc (.cells #[.int .i64 d0, .bool d1, .int .i64 d2, .string d3, .slice d4 d4l d4c, .slice d5 d5l d5c] 25) = v4 at *
  have HL4 := Lib.hid hl4
  have hvs := Nat.le_of_eq ES.out.symm
  have B14 := Lib.hid (B1.out.later hb4 (by omega))
  obtain ⟨z0, z1, z2, z3, z4, z5⟩ := B14.out.six
  obtain ⟨f0, f1, f2, f3, f4, f5⟩ := (T1.out.later hb4 (by omega)).six
  obtain ⟨x0, x1, x2, x3, x4, x5⟩ := b4.six
  have HB4 := Lib.hid (bstep HB2.out hb4 HB2.out.size)
  clear hl4 hb4 b4
  go_wp2_with fail
  refine ret_cells v4 (w.heap.size + 1) [.int .i64 d0, .bool d1, .int .i64 d2, .string d3, .slice d4 d4l d4c, .slice d5 d5l d5c] rfl Tryd.results31 rfl rfl DD.out HU.out Tryd.sizeV (fun i hi => ⟨_, (B14.out i hi).trans (Array.getElem?_eq_getElem (show i < 6 from hi))⟩) ?_
  have hbf := setRow_below (w.heap.size + 1) (by omega) [.int .i64 d0, .bool d1, .int .i64 d2, .string d3, .slice d4 d4l d4c, .slice d5 d5l d5c] v4 0 HB4.out
  exact ⟨_, rfl, (HL4.out.keep (w' := setRow v4 (w.heap.size + 1) 0 [.int .i64 d0, .bool d1, .int .i64 d2, .string d3, .slice d4 d4l d4c, .slice d5 d5l d5c]) (fun b hb => setRow_heap _ _ _ _ _ (by omega))).weaken (fun b hb => by omega), hbf⟩

end Go.Proofs.YtbmlmcoepmbelaaDoor
