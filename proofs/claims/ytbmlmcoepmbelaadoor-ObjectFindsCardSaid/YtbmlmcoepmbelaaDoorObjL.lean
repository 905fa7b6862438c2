/-
  Package object's clone, Find, and what it calls.
-/
import Derived.Test.YtbmlmcoepmbelaaDoorObjX
import Derived.Test.YtbmlmcoepmbelaaDoorCloneF
set_option linter.unusedVariables false
set_option linter.unusedSimpArgs false
namespace Go.Proofs.YtbmlmcoepmbelaaDoor
open Go.RowKit Go.Sort

/-- A map that may be stored into. -/
def FZ (w : World) (a : Option Addr) (n : Nat) : Prop := 0 < n → ∀ g o, a = some ⟨g, o, none⟩ → g < w.heap.size ∧ ∀ j, w.frozen? ⟨g, j, none⟩ = false
theorem FZ.later {w w' : World} {a : Option Addr} {n : Nat} (h : FZ w a n) (hb : Below w.heap.size w w') : FZ w' a n := fun hn g o e => by
  obtain ⟨h1, h2⟩ := h hn g o e
  exact ⟨Nat.lt_of_lt_of_le h1 hb.size, fun j => (hb.frozen (p := ⟨g, j, none⟩) h1).trans (h2 j)⟩
theorem FZ.store {w : World} {a : Option Addr} {n : Nat} (h : FZ w a n) (g2 o2 : Nat) (l : List Value) : FZ (setRow w g2 o2 l) a n := fun hn g o e => by
  obtain ⟨h1, h2⟩ := h hn g o e
  exact ⟨by rw [setRow_size]; exact h1, fun j => by rw [setRow_frozen]; exact h2 j⟩
theorem fz_of {w : World} {R : Nat → Prop} {t : T} {f0 : Int} {f1 : Bool} {f2 : Int} {f3 : ByteArray} {f4 : Option Addr} {f4l f4c : Nat} {f5 : Option Addr} {f5l f5c : Nat} (h : Lies w R t #[.int .i64 f0, .bool f1, .int .i64 f2, .string f3, .slice f4 f4l f4c, .slice f5 f5l f5c]) (hf : ∀ g o, f5 = some ⟨g, o, none⟩ → ∀ j, w.frozen? ⟨g, j, none⟩ = false) : FZ w f5 f5l := fun hn g o e => by
  refine ⟨?_, hf g o e⟩
  cases h with
  | mk k b n s l m la lc ma mc cl cm hk hn2 hs hl hm rl rm ks il im =>
    exact Row.lt (rm 0 hn g o e) (by simp; omega)

/-- An object, for itself. -/
def ObOut (w : World) (ik ip im : ByteArray) (t : T) (e : Ending) (w' : World) : Prop := ∃ (f0 : Int) (f1 : Bool) (f2 : Int) (f3 : ByteArray) (f4 : Option Addr) (f4l f4c : Nat) (f5 : Option Addr) (f5l f5c : Nat), e = .returned (.agg #[.string ik, .string ip, .string im, .int .i64 f0, .bool f1, .int .i64 f2, .string f3, .slice f4 f4l f4c, .slice f5 f5l f5c]) ∧ Lies w' (fun b => w.heap.size ≤ b) t #[.int .i64 f0, .bool f1, .int .i64 f2, .string f3, .slice f4 f4l f4c, .slice f5 f5l f5c] ∧ FZ w' f5 f5l ∧ Below w.heap.size w w'

set_option maxRecDepth 100000 in
set_option maxHeartbeats 4000000 in
theorem oclone_any {w0 : World} {R : Nat → Prop} {t : T} {c0 : Int} {c1 : Bool} {c2 : Int} {c3 : ByteArray} {c4 : Option Addr} {c4l c4c : Nat} {c5 : Option Addr} {c5l c5c : Nat} (h : Lies w0 R t #[.int .i64 c0, .bool c1, .int .i64 c2, .string c3, .slice c4 c4l c4c, .slice c5 c5l c5c]) (ik ip im : ByteArray) (w : World) (hw : Below w0.heap.size w0 w) :
    Calls Tryd.prog 42 #[.agg #[.string ik, .string ip, .string im, .int .i64 c0, .bool c1, .int .i64 c2, .string c3, .slice c4 c4l c4c, .slice c5 c5l c5c]] w (ObOut w ik ip im t) := by
  obtain ⟨dd, hu, hdd⟩ := Tryd.structO
  have DD := Lib.hid hdd
  have HU := Lib.hid hu
  have e1 : (w.alloc (.cells #[.string ik, .string ip, .string im, .int .i64 c0, .bool c1, .int .i64 c2, .string c3, .slice c4 c4l c4c, .slice c5 c5l c5c] 31)).heap.size = w.heap.size + 1 := by simp
  have hb2 : Below w.heap.size w ((w.alloc (.cells #[.string ik, .string ip, .string im, .int .i64 c0, .bool c1, .int .i64 c2, .string c3, .slice c4 c4l c4c, .slice c5 c5l c5c] 31)).alloc (.cells #[.string ⟨#[]⟩, .string ⟨#[]⟩, .string ⟨#[]⟩, .int .i64 0, .bool false, .int .i64 0, .string ⟨#[]⟩, .slice none 0 0, .slice none 0 0] 31)) := ((Below.refl _ _).alloc (Nat.le_refl _) _).alloc (by simp) _
  have b0 := Box9.mid w #[.string ik, .string ip, .string im, .int .i64 c0, .bool c1, .int .i64 c2, .string c3, .slice c4 c4l c4c, .slice c5 c5l c5c] #[.string ⟨#[]⟩, .string ⟨#[]⟩, .string ⟨#[]⟩, .int .i64 0, .bool false, .int .i64 0, .string ⟨#[]⟩, .slice none 0 0, .slice none 0 0] 31 31
  have b1 := Box9.new (w.alloc (.cells #[.string ik, .string ip, .string im, .int .i64 c0, .bool c1, .int .i64 c2, .string c3, .slice c4 c4l c4c, .slice c5 c5l c5c] 31)) #[.string ⟨#[]⟩, .string ⟨#[]⟩, .string ⟨#[]⟩, .int .i64 0, .bool false, .int .i64 0, .string ⟨#[]⟩, .slice none 0 0, .slice none 0 0] 31
  have t1 := Thaw.new (w.alloc (.cells #[.string ik, .string ip, .string im, .int .i64 c0, .bool c1, .int .i64 c2, .string c3, .slice c4 c4l c4c, .slice c5 c5l c5c] 31)) #[.string ⟨#[]⟩, .string ⟨#[]⟩, .string ⟨#[]⟩, .int .i64 0, .bool false, .int .i64 0, .string ⟨#[]⟩, .slice none 0 0, .slice none 0 0] 31
  rw [e1] at b1 t1
  have es : ((w.alloc (.cells #[.string ik, .string ip, .string im, .int .i64 c0, .bool c1, .int .i64 c2, .string c3, .slice c4 c4l c4c, .slice c5 c5l c5c] 31)).alloc (.cells #[.string ⟨#[]⟩, .string ⟨#[]⟩, .string ⟨#[]⟩, .int .i64 0, .bool false, .int .i64 0, .string ⟨#[]⟩, .slice none 0 0, .slice none 0 0] 31)).heap.size = w.heap.size + 2 := by simp
  have CL := Lib.hid (fun w' hw' => tCloneF_any h w' hw')
  have HW := Lib.hid (bstep hw hb2 hw.size)
  have HB2 := Lib.hid hb2
  have B1 := Lib.hid b1
  have T1 := Lib.hid t1
  have ES := Lib.hid es
  obtain ⟨x0, x1, x2, x3, x4, x5, x6, x7, x8⟩ := b0.nine
  clear hdd hu h hw e1 hb2 b0 b1 t1 es
  go_enter Tryd.func42, Tryd.ntmps42
  go_upto_region 1 with fail
  generalize ((w.alloc (.cells #[.string ik, .string ip, .string im, .int .i64 c0, .bool c1, .int .i64 c2, .string c3, .slice c4 c4l c4c, .slice c5 c5l c5c] 31)).alloc (.cells #[.string ⟨#[]⟩, .string ⟨#[]⟩, .string ⟨#[]⟩, .int .i64 0, .bool false, .int .i64 0, .string ⟨#[]⟩, .slice none 0 0, .slice none 0 0] 31)) = v at *
  have hvs := Nat.le_of_eq ES.out.symm
  refine wp_region_specs2 v 6 (fun i => 3 + i) (fun i x wx => match i with | 0 => x = .pointer (some ⟨w.heap.size, 0, none⟩) | 1 => x = .agg #[.string ik, .string ip, .string im] | 2 => x = .pointer (some ⟨w.heap.size, 3, none⟩) | 3 => x = .agg #[.int .i64 c0, .bool c1, .int .i64 c2, .string c3, .slice c4 c4l c4c, .slice c5 c5l c5c] | 4 => ∃ (f0 : Int) (f1 : Bool) (f2 : Int) (f3 : ByteArray) (f4 : Option Addr) (f4l f4c : Nat) (f5 : Option Addr) (f5l f5c : Nat), x = .agg #[.int .i64 f0, .bool f1, .int .i64 f2, .string f3, .slice f4 f4l f4c, .slice f5 f5l f5c] ∧ Lies wx (fun b => v.heap.size ≤ b) t #[.int .i64 f0, .bool f1, .int .i64 f2, .string f3, .slice f4 f4l f4c, .slice f5 f5l f5c] ∧ FZ wx f5 f5l | 5 => ∃ (f0 : Int) (f1 : Bool) (f2 : Int) (f3 : ByteArray) (f4 : Option Addr) (f4l f4c : Nat) (f5 : Option Addr) (f5l f5c : Nat), x = .agg #[.string ik, .string ip, .string im, .int .i64 f0, .bool f1, .int .i64 f2, .string f3, .slice f4 f4l f4c, .slice f5 f5l f5c] ∧ Lies wx (fun b => v.heap.size ≤ b) t #[.int .i64 f0, .bool f1, .int .i64 f2, .string f3, .slice f4 f4l f4c, .slice f5 f5l f5c] ∧ FZ wx f5 f5l | _ => True) (fun _ wx => ∃ (f0 : Int) (f1 : Bool) (f2 : Int) (f3 : ByteArray) (f4 : Option Addr) (f4l f4c : Nat) (f5 : Option Addr) (f5l f5c : Nat) (wb : World), Below v.heap.size v wb ∧ Lies wb (fun b => v.heap.size ≤ b) t #[.int .i64 f0, .bool f1, .int .i64 f2, .string f3, .slice f4 f4l f4c, .slice f5 f5l f5c] ∧ FZ wb f5 f5l ∧ wx = setRow wb (w.heap.size + 1) 0 [.string ik, .string ip, .string im, .int .i64 f0, .bool f1, .int .i64 f2, .string f3, .slice f4 f4l f4c, .slice f5 f5l f5c]) (by kernel_rfl) (by kernel_rfl) ?s1 (Below.refl _ _) ?s2 ?s3 ?s4 ?s5
  case s1 => intro i hi; exact Nat.lt_of_lt_of_le (show 3 + i < 9 by omega) (Nat.le_refl 9)
  case s2 =>
    intro i x w1 w2 hb hU
    match i, hU with
    | 4, ⟨f0, f1, f2, f3, f4, f4l, f4c, f5, f5l, f5c, e, hl, hz⟩ => exact ⟨f0, f1, f2, f3, f4, f4l, f4c, f5, f5l, f5c, e, hl.later hb, hz.later hb⟩
    | 5, ⟨f0, f1, f2, f3, f4, f4l, f4c, f5, f5l, f5c, e, hl, hz⟩ => exact ⟨f0, f1, f2, f3, f4, f4l, f4c, f5, f5l, f5c, e, hl.later hb, hz.later hb⟩
    | 0, h | 1, h | 2, h | 3, h => exact h
    | (n + 6), _ => trivial
  case s3 =>
    intro i o ac wb K' ho hi hA hB hdep hK
    have sv1 : ac.tmps[1]?.getD undef = .pointer (some ⟨w.heap.size, 0, none⟩) := hA.sl (t := 1) (by decide)
    have sv2 : ac.tmps[2]?.getD undef = .pointer (some ⟨w.heap.size + 1, 0, none⟩) := hA.sl (t := 2) (by decide)
    have x0 := cells_frame hB x0
    have x1 := cells_frame hB x1
    have x2 := cells_frame hB x2
    have x3 := cells_frame hB x3
    have x4 := cells_frame hB x4
    have x5 := cells_frame hB x5
    have x6 := cells_frame hB x6
    have x7 := cells_frame hB x7
    have x8 := cells_frame hB x8
    rcases (by omega : i = 0 ∨ i = 1 ∨ i = 2 ∨ i = 3 ∨ i = 4 ∨ i = 5) with rfl | rfl | rfl | rfl | rfl | rfl
    · simp at ho
      subst ho
      clear hdep hA
      go_simp
      exact hK _ wb (Below.refl _ _) rfl
    · simp at ho
      subst ho
      have y0 : ac.tmps[3]?.getD undef = .pointer (some ⟨w.heap.size, 0, none⟩) := hdep { on := 0, ground := .data } (by simp) rfl
      clear hdep hA
      go_simp
      exact hK _ wb (Below.refl _ _) rfl
    · simp at ho
      subst ho
      clear hdep hA
      go_simp
      exact hK _ wb (Below.refl _ _) rfl
    · simp at ho
      subst ho
      have y2 : ac.tmps[5]?.getD undef = .pointer (some ⟨w.heap.size, 3, none⟩) := hdep { on := 2, ground := .data } (by simp) rfl
      clear hdep hA
      go_simp
      exact hK _ wb (Below.refl _ _) rfl
    · simp at ho
      subst ho
      have y3 : ac.tmps[6]?.getD undef = .agg #[.int .i64 c0, .bool c1, .int .i64 c2, .string c3, .slice c4 c4l c4c, .slice c5 c5l c5c] := hdep { on := 3, ground := .data } (by simp) rfl
      clear hdep hA
      go_simp
      refine (CL.out wb (bstep HW.out hB HW.out.size)).mono ?_
      rintro e w7 ⟨f0, f1, f2, f3, f4, f4l, f4c, f5, f5l, f5c, rfl, hl, hz, hb7⟩
      exact hK _ w7 hb7 ⟨f0, f1, f2, f3, f4, f4l, f4c, f5, f5l, f5c, rfl, hl.weaken fun b hb => Nat.le_trans hB.size hb, fz_of hl hz⟩
    · simp at ho
      subst ho
      have y1 : ac.tmps[4]?.getD undef = .agg #[.string ik, .string ip, .string im] := hdep { on := 1, ground := .data } (by simp) rfl
      obtain ⟨y4f0, y4f1, y4f2, y4f3, y4f4, y4f4l, y4f4c, y4f5, y4f5l, y4f5c, y4, hly4, hzy4⟩ := hdep { on := 4, ground := .data } (by simp) rfl
      have y4 : ac.tmps[7]?.getD undef = .agg #[.int .i64 y4f0, .bool y4f1, .int .i64 y4f2, .string y4f3, .slice y4f4 y4f4l y4f4c, .slice y4f5 y4f5l y4f5c] := y4
      clear hdep hA
      go_simp
      exact hK _ wb (Below.refl _ _) ⟨y4f0, y4f1, y4f2, y4f3, y4f4, y4f4l, y4f4c, y4f5, y4f5l, y4f5c, rfl, hly4, hzy4⟩
  case s4 =>
    intro o ac wb K' ho hA hB hU hK
    have sv1 : ac.tmps[1]?.getD undef = .pointer (some ⟨w.heap.size, 0, none⟩) := hA.sl (t := 1) (by decide)
    have sv2 : ac.tmps[2]?.getD undef = .pointer (some ⟨w.heap.size + 1, 0, none⟩) := hA.sl (t := 2) (by decide)
    have x0 := cells_frame hB x0
    have x1 := cells_frame hB x1
    have x2 := cells_frame hB x2
    have x3 := cells_frame hB x3
    have x4 := cells_frame hB x4
    have x5 := cells_frame hB x5
    have x6 := cells_frame hB x6
    have x7 := cells_frame hB x7
    have x8 := cells_frame hB x8
    simp at ho
    subst ho
    obtain ⟨y5f0, y5f1, y5f2, y5f3, y5f4, y5f4l, y5f4c, y5f5, y5f5l, y5f5c, y5, hly5, hzy5⟩ := hU 5 (by omega)
    have y5 : ac.tmps[8]?.getD undef = .agg #[.string ik, .string ip, .string im, .int .i64 y5f0, .bool y5f1, .int .i64 y5f2, .string y5f3, .slice y5f4 y5f4l y5f4c, .slice y5f5 y5f5l y5f5c] := y5
    clear hU hA
    obtain ⟨z0, z1, z2, z3, z4, z5, z6, z7, z8⟩ := (B1.out.later hB (by omega)).nine
    obtain ⟨f0, f1, f2, f3, f4, f5, f6, f7, f8⟩ := (T1.out.later hB (by omega)).nine
    go_simp
    exact hK _ ⟨y5f0, y5f1, y5f2, y5f3, y5f4, y5f4l, y5f4c, y5f5, y5f5l, y5f5c, wb, hB, hly5, hzy5, rfl⟩
  case s5 =>
    intro ac wn hA hF
    have hs : slots 6 (fun i => 3 + i) = [3, 4, 5, 6, 7, 8] := by rfl
    rw [hs] at hA
    have hac := hA.act (fun t ht => by
      have h8 : t = 3 ∨ t = 4 ∨ t = 5 ∨ t = 6 ∨ t = 7 ∨ t = 8 := by simpa using ht
      rcases h8 with rfl | rfl | rfl | rfl | rfl | rfl <;> exact Nat.lt_of_lt_of_le (by decide : _ < 9) (Nat.le_refl 9))
    rw [List.foldl_cons, List.foldl_cons, List.foldl_cons, List.foldl_cons, List.foldl_cons, List.foldl_cons, List.foldl_nil] at hac
    generalize sl ac 3 = x3 at hac
    generalize sl ac 4 = x4 at hac
    generalize sl ac 5 = x5 at hac
    generalize sl ac 6 = x6 at hac
    generalize sl ac 7 = x7 at hac
    generalize sl ac 8 = x8 at hac
    clear hA hs
    subst hac
    simp only [Act.put, List.setIfInBounds_toArray, List.set_cons_succ, List.set_cons_zero]
    obtain ⟨f0, f1, f2, f3, f4, f4l, f4c, f5, f5l, f5c, w7, hb7, hl7, hz7, rfl⟩ := hF
    have H7 := Lib.hid hb7
    have L7 := Lib.hid hl7
    have Z7 := Lib.hid hz7
    have BR7 := Lib.hid (B1.out.later hb7 (by omega))
    have hzz := hb7.size
    clear hb7 hl7 hz7
    generalize hWW : setRow w7 (w.heap.size + 1) 0 [.string ik, .string ip, .string im, .int .i64 f0, .bool f1, .int .i64 f2, .string f3, .slice f4 f4l f4c, .slice f5 f5l f5c] = W8
    have HW8 := Lib.hid hWW.symm
    clear hWW
    go_wp2_with fail
    refine ret_cells w7 (w.heap.size + 1) [.string ik, .string ip, .string im, .int .i64 f0, .bool f1, .int .i64 f2, .string f3, .slice f4 f4l f4c, .slice f5 f5l f5c] HW8.out Tryd.results42 rfl rfl DD.out HU.out Tryd.sizeO (fun i hi => BR7.out.cells rfl i hi) ?_
    have hbf := setRow_below (w.heap.size + 1) (by omega) [.string ik, .string ip, .string im, .int .i64 f0, .bool f1, .int .i64 f2, .string f3, .slice f4 f4l f4c, .slice f5 f5l f5c] w7 0 (bstep HB2.out H7.out HB2.out.size)
    exact ⟨f0, f1, f2, f3, f4, f4l, f4c, f5, f5l, f5c, rfl, (L7.out.keep (fun b hb => setRow_heap _ _ _ _ _ (by omega))).weaken (fun b hb => by omega), Z7.out.store _ _ _, hbf⟩

/-! ### Find -/

/-- Is it known so? -/
def isO (k p n : ByteArray) (x : OC) : Bool := decide (x.k = k ∧ x.p = p ∧ x.n = n)

set_option maxRecDepth 100000 in
theorem oFind1_any (x : OC) (k p n : ByteArray) (g : Nat) (w : World) (hk : w.cell? ⟨g, 0, none⟩ = some (.string k)) (hp : w.cell? ⟨g, 1, none⟩ = some (.string p)) (hn : w.cell? ⟨g, 2, none⟩ = some (.string n)) (hg : g < w.heap.size) :
    Calls Tryd.prog 44 #[.agg (encO x).toArray, .pointer (some ⟨g, 0, none⟩)] w fun e w' => e = .returned (.bool (isO k p n x)) ∧ Below w.heap.size w w' := by
  obtain ⟨ik, ip, im, c0, c1, c2, c3, c4, c4l, c4c, c5, c5l, c5c⟩ := x
  show Calls Tryd.prog 44 #[.agg #[.string ik, .string ip, .string im, .int .i64 c0, .bool c1, .int .i64 c2, .string c3, .slice c4 c4l c4c, .slice c5 c5l c5c], .pointer (some ⟨g, 0, none⟩)] w _
  have hb1 := (Below.refl w.heap.size w).alloc (Nat.le_refl _) (.cells #[.string ik, .string ip, .string im, .int .i64 c0, .bool c1, .int .i64 c2, .string c3, .slice c4 c4l c4c, .slice c5 c5l c5c] 31)
  have b1 := Box9.new w #[.string ik, .string ip, .string im, .int .i64 c0, .bool c1, .int .i64 c2, .string c3, .slice c4 c4l c4c, .slice c5 c5l c5c] 31
  have k1 := cells_frame hb1 hk
  have p1 := cells_frame hb1 hp
  have n1 := cells_frame hb1 hn
  have HB := Lib.hid hb1
  have IS : Hid (isO k p n ⟨ik, ip, im, c0, c1, c2, c3, c4, c4l, c4c, c5, c5l, c5c⟩ = decide (ik = k ∧ ip = p ∧ im = n)) := rfl
  obtain ⟨x0, x1, x2, -⟩ := b1.nine
  clear hb1 b1 hk hp hn
  go_enter Tryd.func44, Tryd.ntmps44
  go_upto_region 1 with fail
  generalize w.alloc (.cells #[.string ik, .string ip, .string im, .int .i64 c0, .bool c1, .int .i64 c2, .string c3, .slice c4 c4l c4c, .slice c5 c5l c5c] 31) = v at *
  by_cases h1 : ik = k
  · have d1 : ik.toList = k.toList := by rw [h1]
    by_cases h2 : ip = p
    · have d2 : ip.toList = p.toList := by rw [h2]
      by_cases h3 : im = n
      · have d3 : im.toList = n.toList := by rw [h3]
        have HR : Hid (isO k p n ⟨ik, ip, im, c0, c1, c2, c3, c4, c4l, c4c, c5, c5l, c5c⟩ = true) := IS.out.trans (decide_eq_true ⟨h1, h2, h3⟩)
        clear h1 h2 h3
        go_wp2_with fail
        go_ret
        exact ⟨ret_bool HR.out.symm, HB.out⟩
      · have d3 : ¬ im.toList = n.toList := fun e => h3 (toList_inj e)
        have HR : Hid (isO k p n ⟨ik, ip, im, c0, c1, c2, c3, c4, c4l, c4c, c5, c5l, c5c⟩ = false) := IS.out.trans (decide_eq_false (fun e => h3 e.2.2))
        clear h1 h2 h3
        go_wp2_with fail
        go_ret
        exact ⟨ret_bool HR.out.symm, HB.out⟩
    · have d2 : ¬ ip.toList = p.toList := fun e => h2 (toList_inj e)
      have HR : Hid (isO k p n ⟨ik, ip, im, c0, c1, c2, c3, c4, c4l, c4c, c5, c5l, c5c⟩ = false) := IS.out.trans (decide_eq_false (fun e => h2 e.2.1))
      clear h1 h2
      go_wp2_with fail
      go_ret
      exact ⟨ret_bool HR.out.symm, HB.out⟩
  · have d1 : ¬ ik.toList = k.toList := fun e => h1 (toList_inj e)
    have HR : Hid (isO k p n ⟨ik, ip, im, c0, c1, c2, c3, c4, c4l, c4c, c5, c5l, c5c⟩ = false) := IS.out.trans (decide_eq_false (fun e => h1 e.1))
    clear h1
    go_wp2_with fail
    go_ret
    exact ⟨ret_bool HR.out.symm, HB.out⟩

end Go.Proofs.YtbmlmcoepmbelaaDoor
