/-
  Package path's Get, Put.
-/
import Derived.Test.YtbbpipjadniafaaDoorPathR
set_option linter.unusedVariables false
set_option linter.unusedSimpArgs false
namespace Go.Proofs.YtbbpipjadniafaaDoor
open Go.RowKit

theorem SliceS.later {w w' : World} {ks : List ByteArray} {a : Option Addr} {cap : Nat} (h : SliceS w ks a cap) (hb : Below w.heap.size w w') : SliceS w' ks a cap :=
  ⟨h.le, h.big, h.ofNone, h.ofSome, h.max, fun i hi b off e => cells_frame hb (h.cell i hi b off e), h.sizes⟩
theorem SliceS.take {w : World} {ks : List ByteArray} {a : Option Addr} {cap : Nat} (h : SliceS w ks a cap) (n : Nat) (hn : n ≤ ks.length) : SliceS w (ks.take n) a cap := by
  have e : (ks.take n).length = n := by simp; omega
  refine ⟨by have := h.le; omega, by have := h.big; omega, h.ofNone, fun hp => h.ofSome (by omega), h.max, fun i hi b off ea => ?_, fun i hi => ?_⟩
  · have := h.cell i (by omega) b off ea
    simpa using this
  · have := h.sizes i (by omega)
    simpa using this

theorem T.nil_size : T.nil.size = 1 := by rw [T.nil, T.size_mk]; rfl
theorem T.pairs_size (t : T) : t.pairs.length ≤ t.size := by
  obtain ⟨k, b, n, s, l, m⟩ := t
  rw [T.pairs, T.size_mk]
  split
  · have : m.length ≤ (m.map fun p => p.2.size).sum := by
      induction m with
      | nil => simp
      | cons p r ih =>
        have h1 : 1 ≤ p.2.size := by obtain ⟨k, b, n, s, l, m⟩ := p.2; rw [T.size_mk]; omega
        simp only [List.length_cons, List.map_cons, List.sum_cons]
        omega
    omega
  · simp
theorem T.one_size (t : T) : 1 ≤ t.size := by obtain ⟨k, b, n, s, l, m⟩ := t; rw [T.size_mk]; omega
theorem get_size {t u : T} {key : ByteArray} (h : t.get key = some u) : u.size ≤ t.size := by
  rw [T.get_find] at h
  unfold findR at h
  cases hf : t.pairs.find? fun p => decide (p.1 = key) with
  | none => rw [hf] at h; cases h
  | some p =>
    rw [hf] at h
    obtain rfl : p.2 = u := by simpa using h
    have hm := List.mem_of_find?_eq_some hf
    obtain ⟨k, b, n, s, l, m⟩ := t
    rw [T.pairs] at hm
    split at hm
    · rw [T.size_mk]
      have := le_sum (l := m.map fun p => p.2.size) (x := p.2.size) (List.mem_map.2 ⟨p, hm, rfl⟩)
      omega
    · cases hm
theorem in_size (k : ByteArray) (t : T) : (inL k t).size ≤ t.size := by
  unfold inL
  cases h : t.get k with
  | none => rw [Option.getD_none, T.nil_size]; exact t.one_size
  | some u => exact get_size h
theorem way_size : ∀ (l : List ByteArray) (t u : T), u ∈ wayL l t → u.size ≤ t.size
  | [], _, _, h => by cases h
  | k :: r, t, u, h => by
    rw [wayL, List.mem_cons] at h
    rcases h with rfl | h
    · exact Nat.le_refl _
    · exact Nat.le_trans (way_size r _ u h) (in_size k t)
theorem way_big {l : List ByteArray} {t : T} (h : t.size ≤ 1000000) : ∀ u ∈ wayL l t, (u.pairs.length + 1) * 104 ≤ 140737488355328 := fun u hu => by
  have := way_size l t u hu
  have := u.pairs_size
  omega

set_option maxRecDepth 100000 in
set_option maxHeartbeats 2000000 in
theorem pGet_any {w0 : World} {R : Nat → Prop} {t : T} {cs : Array Value} {ks : List ByteArray} {sa : Option Addr} {sc : Nat} (h : Lies w0 R t cs) (hS : SliceS w0 ks sa sc) (w : World) (hw : Below w0.heap.size w0 w) :
    Calls Tryd.prog 15 #[.agg cs, .slice sa ks.length sc] w (Got w (atL ks t)) := by
  have HF := Lib.hid (find_any h hS)
  obtain ⟨k, b, n, s, la, ll2, lc, ma, ml, mc, rfl⟩ := h.six
  obtain ⟨dd, hu, hdd⟩ := Tryd.structV
  have DD := Lib.hid hdd
  have HU := Lib.hid hu
  clear hdd hu h hS
  have hq : ((w.alloc (.cells #[.int .i64 k, .bool b, .int .i64 n, .string s, .slice la ll2 lc, .slice ma ml mc] 36)).alloc (.cells zeroV 36)).heap.size = w.heap.size + 2 := by simp
  have hb1 := ((Below.refl w.heap.size w).alloc (Nat.le_refl _) (.cells #[.int .i64 k, .bool b, .int .i64 n, .string s, .slice la ll2 lc, .slice ma ml mc] 36)).alloc (by simp) (.cells zeroV 36)
  have b0 : Box6 ((w.alloc (.cells #[.int .i64 k, .bool b, .int .i64 n, .string s, .slice la ll2 lc, .slice ma ml mc] 36)).alloc (.cells zeroV 36)) w.heap.size #[.int .i64 k, .bool b, .int .i64 n, .string s, .slice la ll2 lc, .slice ma ml mc] := (Box6.new w _ _).later ((Below.refl (w.heap.size + 1) _).alloc (by simp) _) (by omega)
  have b1 := Box6.new (w.alloc (.cells #[.int .i64 k, .bool b, .int .i64 n, .string s, .slice la ll2 lc, .slice ma ml mc] 36)) zeroV 36
  have t1 := Thaw.new (w.alloc (.cells #[.int .i64 k, .bool b, .int .i64 n, .string s, .slice la ll2 lc, .slice ma ml mc] 36)) zeroV 36
  rw [World.size_alloc] at b1 t1
  go_enter Tryd.func15, Tryd.ntmps15
  go_upto_region 1 with fail
  generalize (w.alloc (.cells #[.int .i64 k, .bool b, .int .i64 n, .string s, .slice la ll2 lc, .slice ma ml mc] 36)).alloc (.cells zeroV 36) = v at hq hb1 b0 b1 t1 ⊢
  have HV := Lib.hid hb1
  have B1 := Lib.hid b1
  have T1 := Lib.hid t1
  obtain ⟨x0, x1, x2, x3, x4, x5⟩ := b0.six
  have hq1 : w.heap.size + 2 ≤ v.heap.size := by omega
  clear b1 t1 b0 hb1 hq
  go_wp2_with (go_at_call 25; refine (HF.out v (bstep hw HV.out hw.size)).mono ?_; rintro e w2 ⟨es, rfl, hL, hb2⟩; obtain ⟨e0, e1, e2, e3, e4, e4l, e4c, e5, e5l, e5c, rfl⟩ := hL.six; have HL := Lib.hid hL; have HB2 := Lib.hid hb2; clear hL hb2)
  have hs2 := HB2.out.size
  have hw2 := bstep hw (bstep HV.out HB2.out HV.out.size) hw.size
  refine (tClone_any HL.out _ (bbox hw2 _ hw2.size)).mono ?_
  rintro e w3 ⟨ds, rfl, hL3, hb3⟩
  obtain ⟨d0, d1, d2, d3, d4, d4l, d4c, d5, d5l, d5c, rfl⟩ := hL3.six
  have hv3 : Below v.heap.size v w3 := bstep HB2.out (bunbox hb3 (Nat.le_refl _) (by simp)) HB2.out.size
  have hz := B1.out.later hv3 (by omega)
  obtain ⟨z0, z1, z2, z3, z4, z5⟩ := hz.six
  obtain ⟨f0, f1, f2, f3, f4, f5⟩ := (T1.out.later hv3 (by omega)).six
  have HZ := Lib.hid hz
  have HL3 := Lib.hid hL3
  have HV3 := Lib.hid hv3
  have hs3 := hb3.size
  simp only [World.size_alloc] at hs3
  clear hz hL3 hb3 hv3 x0 x1 x2 x3 x4 x5
  go_wp2_with fail
  refine ret_cells_tmp w3 (w.heap.size + 1) [.int .i64 d0, .bool d1, .int .i64 d2, .string d3, .slice d4 d4l d4c, .slice d5 d5l d5c] rfl Tryd.results15 rfl rfl DD.out HU.out Tryd.sizeV (fun i hi => ⟨_, (HZ.out i hi).trans (Array.getElem?_eq_getElem (show i < 6 from hi))⟩) ?_
  exact ⟨_, rfl, (HL3.out.keep (fun b hb => setRow_heap _ _ _ _ _ (by simp only [World.size_alloc] at hb; omega))).weaken (fun b hb => by simp only [World.size_alloc] at hb; omega), setRow_below _ (by omega) _ _ _ (bstep HV.out HV3.out HV.out.size)⟩

end Go.Proofs.YtbbpipjadniafaaDoor
