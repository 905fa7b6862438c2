/-
  Package path's Get, Put.
-/
import Derived.Test.YtlniokpekcoodaaGreatDoorPathR
import Derived.Test.YtlniokpekcoodaaGreatDoorGetM
set_option linter.unusedVariables false
set_option linter.unusedSimpArgs false
namespace Go.Proofs.YtlniokpekcoodaaGreatDoor
open Go.RowKit

theorem SliceS.later {w w' : World} {ks : List ByteArray} {a : Option Addr} {cap : Nat} (h : SliceS w ks a cap) (hb : Below w.heap.size w w') : SliceS w' ks a cap :=
  ⟨h.le, h.big, h.ofNone, h.ofSome, h.max, fun i hi b off e => cells_frame hb (h.cell i hi b off e), h.sizes⟩
theorem SliceS.take {w : World} {ks : List ByteArray} {a : Option Addr} {cap : Nat} (h : SliceS w ks a cap) (n : Nat) (hn : n ≤ ks.length) : SliceS w (ks.take n) a cap := by
  have e : (ks.take n).length = n := by simp; omega
  refine ⟨by have := h.le; omega, by have := h.big; omega, h.ofNone, fun hp => h.ofSome (by omega), h.max, fun i hi b off ea => ?_, fun i hi => ?_⟩
  · have := h.cell i (by omega) b off ea
    simpa using this
  · have := h.sizes i (by omega)
    simpa using this

theorem T.nil_size : T.nil.size = 1 := by rw [T.nil, T.size_mk]; rfl
theorem T.pairs_size (t : T) : t.pairs.length ≤ t.size := by
  obtain ⟨k, b, n, s, l, m⟩ := t
  rw [T.pairs, T.size_mk]
  split
  · have : m.length ≤ (m.map fun p => p.2.size).sum := by
      induction m with
      | nil => simp
      | cons p r ih =>
        have h1 : 1 ≤ p.2.size := by obtain ⟨k, b, n, s, l, m⟩ := p.2; rw [T.size_mk]; omega
        simp only [List.length_cons, List.map_cons, List.sum_cons]
        omega
    omega
  · simp
theorem T.one_size (t : T) : 1 ≤ t.size := by obtain ⟨k, b, n, s, l, m⟩ := t; rw [T.size_mk]; omega
theorem get_size {t u : T} {key : ByteArray} (h : t.get key = some u) : u.size ≤ t.size := by
  rw [T.get_find] at h
  unfold findR at h
  cases hf : t.pairs.find? fun p => decide (p.1 = key) with
  | none => rw [hf] at h; cases h
  | some p =>
    rw [hf] at h
    obtain rfl : p.2 = u := by simpa using h
    have hm := List.mem_of_find?_eq_some hf
    obtain ⟨k, b, n, s, l, m⟩ := t
    rw [T.pairs] at hm
    split at hm
    · rw [T.size_mk]
      have := le_sum (l := m.map fun p => p.2.size) (x := p.2.size) (List.mem_map.2 ⟨p, hm, rfl⟩)
      omega
    · cases hm
theorem in_size (k : ByteArray) (t : T) : (inL k t).size ≤ t.size := by
  unfold inL
  cases h : t.get k with
  | none => rw [Option.getD_none, T.nil_size]; exact t.one_size
  | some u => exact get_size h
theorem way_size : ∀ (l : List ByteArray) (t u : T), u ∈ wayL l t → u.size ≤ t.size
  | [], _, _, h => by cases h
  | k :: r, t, u, h => by
    rw [wayL, List.mem_cons] at h
    rcases h with rfl | h
    · exact Nat.le_refl _
    · exact Nat.le_trans (way_size r _ u h) (in_size k t)
theorem way_big {l : List ByteArray} {t : T} (h : t.size ≤ 1000000) : ∀ u ∈ wayL l t, (u.pairs.length + 1) * 104 ≤ 140737488355328 := fun u hu => by
  have := way_size l t u hu
  have := u.pairs_size
  omega

end Go.Proofs.YtlniokpekcoodaaGreatDoor

/-
  Package path's Put.
-/
set_option linter.unusedVariables false
set_option linter.unusedSimpArgs false
namespace Go.Proofs.YtlniokpekcoodaaGreatDoor
open Go.RowKit

set_option maxRecDepth 100000 in
set_option maxHeartbeats 4000000 in
theorem pPut_any {w0 : World} {R RX : Nat → Prop} {t xT : T} {cs es : Array Value} {ks : List ByteArray} {sa : Option Addr} {sc : Nat} (h : Lies w0 R t cs) (hx : Lies w0 RX xT es) (hS : SliceS w0 ks sa sc) (hn : ks.length ≤ 1000000) (hsz : t.size ≤ 1000000) (w : World) (hw : Below w0.heap.size w0 w) :
    Calls Tryz.prog 31 #[.agg cs, .agg es, .slice sa ks.length sc] w (PutIn w (putL ks t xT)) := by
  have HWY := Lib.hid (way_any h hS hn)
  have HCL := Lib.hid (tClone_any hx)
  have HKS := Lib.hid hS
  have HBG := Lib.hid (way_big (l := ks) hsz)
  have hw2 := hw
  obtain ⟨k, b, n, s, la, ll, lc, ma, ml, mc, rfl⟩ := h.six
  obtain ⟨k2, b2, n2, s2, la2, ll2, lc2, ma2, ml2, mc2, rfl⟩ := hx.six
  obtain ⟨q1, q2, q3, q4, q5, q6⟩ := three_new w #[.int .i64 k, .bool b, .int .i64 n, .string s, .slice la ll lc, .slice ma ml mc] #[.int .i64 k2, .bool b2, .int .i64 n2, .string s2, .slice la2 ll2 lc2, .slice ma2 ml2 mc2]
  obtain ⟨dd, hu, hdd⟩ := Tryz.structV
  have DD := Lib.hid hdd
  have HU := Lib.hid hu
  clear hdd hu h hx hS hsz
  go_enter Tryz.func31, Tryz.ntmps31
  go_upto_region 1 with fail
  generalize (((w.alloc (.cells #[.int .i64 k, .bool b, .int .i64 n, .string s, .slice la ll lc, .slice ma ml mc] 25)).alloc (.cells #[.int .i64 k2, .bool b2, .int .i64 n2, .string s2, .slice la2 ll2 lc2, .slice ma2 ml2 mc2] 25)).alloc (.cells zeroV 25)) = v at q1 q2 q3 q4 q5 q6 ⊢
  have HWV := Lib.hid q5
  have HZ := Lib.hid q3
  have HT := Lib.hid q4
  have hv3 : w.heap.size + 3 ≤ v.heap.size := by omega
  obtain ⟨p0, p1, p2, p3, p4, p5⟩ := q1.six
  obtain ⟨q0', q1', q2', q3', q4', q5'⟩ := q2.six
  clear q1 q2 q3 q4 q5 q6
  have q0 := q0'
  have q1 := q1'
  have q2 := q2'
  have q3 := q3'
  have q4 := q4'
  have q5 := q5'
  clear q0' q1' q2' q3' q4' q5'
  refine wp_region_specs2 v 7 (fun i => 7 + i) (fun i x wx => match i with | 0 => x = .agg #[.int .i64 k, .bool b, .int .i64 n, .string s, .slice la ll lc, .slice ma ml mc] | 1 => x = .slice sa ks.length sc | 2 => ∃ (a : Option Addr) (cap : Nat) (cl : Nat → Array Value), x = .slice a (wayL ks t).length cap ∧ SliceV wx (fun _ => True) (wayL ks t) a cap cl | 3 => x = .slice sa ks.length sc | 4 => x = .agg #[.int .i64 k2, .bool b2, .int .i64 n2, .string s2, .slice la2 ll2 lc2, .slice ma2 ml2 mc2] | 5 => ∃ ds : Array Value, x = .agg ds ∧ Lies wx (fun b => v.heap.size ≤ b) xT ds | 6 => ∃ ds : Array Value, x = .agg ds ∧ Lies wx (fun b => v.heap.size ≤ b) (putL ks t xT) ds | _ => True) (fun _ wx => ∃ (wb : World) (ds : Array Value), Below v.heap.size v wb ∧ Lies wb (fun b => v.heap.size ≤ b) (putL ks t xT) ds ∧ wx = setRow wb (w.heap.size + 2) 0 ds.toList) (by kernel_rfl) (by kernel_rfl) ?s1 (Below.refl _ _) ?s2 ?s3 ?s4 ?s5
  case s1 => intro i hi; exact Nat.lt_of_lt_of_le (show 7 + i < 14 by omega) (Nat.le_refl 14)
  case s2 =>
    intro i x w1 w2 hb hU
    match i, hU with
    | 2, ⟨a, cap, cl, e, hS⟩ => exact ⟨a, cap, cl, e, hS.later hb⟩
    | 5, ⟨ds, e, hL⟩ => exact ⟨ds, e, hL.later hb⟩
    | 6, ⟨ds, e, hL⟩ => exact ⟨ds, e, hL.later hb⟩
    | 0, h | 1, h | 3, h | 4, h => exact h
    | (n + 7), _ => trivial
  case s3 =>
    intro i o ac wb K' ho hi hA hB hdep hK
    have sv2 : ac.tmps[2]?.getD undef = .slice sa ks.length sc := hA.sl (t := 2) (by decide)
    have sv3 : ac.tmps[3]?.getD undef = .pointer (some ⟨w.heap.size, 0, none⟩) := hA.sl (t := 3) (by decide)
    have sv4 : ac.tmps[4]?.getD undef = .pointer (some ⟨w.heap.size + 1, 0, none⟩) := hA.sl (t := 4) (by decide)
    have sv6 : ac.tmps[6]?.getD undef = .pointer (some ⟨w.heap.size + 1 + 1, 0, none⟩) := hA.sl (t := 6) (by decide)
    have p0 := cells_frame hB p0
    have p1 := cells_frame hB p1
    have p2 := cells_frame hB p2
    have p3 := cells_frame hB p3
    have p4 := cells_frame hB p4
    have p5 := cells_frame hB p5
    have q0 := cells_frame hB q0
    have q1 := cells_frame hB q1
    have q2 := cells_frame hB q2
    have q3 := cells_frame hB q3
    have q4 := cells_frame hB q4
    have q5 := cells_frame hB q5
    rcases (by omega : i = 0 ∨ i = 1 ∨ i = 2 ∨ i = 3 ∨ i = 4 ∨ i = 5 ∨ i = 6) with rfl | rfl | rfl | rfl | rfl | rfl | rfl
    · simp at ho
      subst ho
      clear hdep hA
      go_simp
      exact hK _ wb (Below.refl _ _) rfl
    · simp at ho
      subst ho
      clear hdep hA
      go_simp
      exact hK _ wb (Below.refl _ _) rfl
    · simp at ho
      subst ho
      have y0 : ac.tmps[7]?.getD undef = .agg #[.int .i64 k, .bool b, .int .i64 n, .string s, .slice la ll lc, .slice ma ml mc] := hdep { on := 0, ground := .data } (by simp) rfl
      have y1 : ac.tmps[8]?.getD undef = .slice sa ks.length sc := hdep { on := 1, ground := .data } (by simp) rfl
      clear hdep hA
      go_simp
      refine (HWY.out wb (bstep hw HWV.out hw.size |>.trans (hB.mono (by have := hw.size; have := HWV.out.size; omega)))).mono ?_
      rintro e w3 ⟨a, cap, cl, rfl, hSV, hb3⟩
      exact hK _ w3 hb3 ⟨a, cap, cl, rfl, hSV.weaken fun _ _ => trivial⟩
    · simp at ho
      subst ho
      clear hdep hA
      go_simp
      exact hK _ wb (Below.refl _ _) rfl
    · simp at ho
      subst ho
      clear hdep hA
      go_simp
      exact hK _ wb (Below.refl _ _) rfl
    · simp at ho
      subst ho
      have y4 : ac.tmps[11]?.getD undef = .agg #[.int .i64 k2, .bool b2, .int .i64 n2, .string s2, .slice la2 ll2 lc2, .slice ma2 ml2 mc2] := hdep { on := 4, ground := .data } (by simp) rfl
      clear hdep hA
      go_simp
      refine (HCL.out wb (bstep hw2 HWV.out hw2.size |>.trans (hB.mono (by have := hw2.size; have := HWV.out.size; omega)))).mono ?_
      rintro e w3 ⟨ds, rfl, hL, hb3⟩
      exact hK _ w3 hb3 ⟨ds, rfl, hL.weaken fun b hb => Nat.le_trans hB.size hb⟩
    · simp at ho
      subst ho
      obtain ⟨a, cap, cl, y2, hSy2⟩ := hdep { on := 2, ground := .data } (by simp) rfl
      have y2 : ac.tmps[9]?.getD undef = _ := y2
      have y3 : ac.tmps[10]?.getD undef = .slice sa ks.length sc := hdep { on := 3, ground := .data } (by simp) rfl
      obtain ⟨ds, y5, hLy5⟩ := hdep { on := 5, ground := .data } (by simp) rfl
      obtain ⟨d0, d1, d2, d3, d4, d4l, d4c, d5, d5l, d5c, rfl⟩ := hLy5.six
      have y5 : ac.tmps[12]?.getD undef = _ := y5
      clear hdep hA
      go_simp
      refine (rebuilt_any hSy2 (HKS.out.later (bstep hw HWV.out hw.size |>.trans (hB.mono (by have := hw.size; have := HWV.out.size; omega)))) hLy5 (by rw [way_len]; exact Nat.le_refl _) HBG.out).mono ?_
      rintro e w3 ⟨ds, rfl, hL, hb3⟩
      rw [rb_way] at hL
      exact hK _ w3 hb3 ⟨ds, rfl, hL.weaken fun b hb => by
          have := hB.size
          rcases hb with h | h
          · exact h.1
          · omega⟩
  case s4 =>
    intro o ac wb K' ho hA hB hU hK
    have sv2 : ac.tmps[2]?.getD undef = .slice sa ks.length sc := hA.sl (t := 2) (by decide)
    have sv3 : ac.tmps[3]?.getD undef = .pointer (some ⟨w.heap.size, 0, none⟩) := hA.sl (t := 3) (by decide)
    have sv4 : ac.tmps[4]?.getD undef = .pointer (some ⟨w.heap.size + 1, 0, none⟩) := hA.sl (t := 4) (by decide)
    have sv6 : ac.tmps[6]?.getD undef = .pointer (some ⟨w.heap.size + 1 + 1, 0, none⟩) := hA.sl (t := 6) (by decide)
    have p0 := cells_frame hB p0
    have p1 := cells_frame hB p1
    have p2 := cells_frame hB p2
    have p3 := cells_frame hB p3
    have p4 := cells_frame hB p4
    have p5 := cells_frame hB p5
    have q0 := cells_frame hB q0
    have q1 := cells_frame hB q1
    have q2 := cells_frame hB q2
    have q3 := cells_frame hB q3
    have q4 := cells_frame hB q4
    have q5 := cells_frame hB q5
    simp at ho
    subst ho
    obtain ⟨ds, y6, hLy6⟩ := hU 6 (by omega)
    obtain ⟨r0, r1, r2, r3, r4, r4l, r4c, r5, r5l, r5c, rfl⟩ := hLy6.six
    have y6 : ac.tmps[13]?.getD undef = _ := y6
    clear hU hA
    obtain ⟨z0, z1, z2, z3, z4, z5⟩ := (HZ.out.later hB (by omega)).six
    obtain ⟨f0, f1, f2, f3, f4, f5⟩ := (HT.out.later hB (by omega)).six
    go_simp
    exact hK _ ⟨wb, _, hB, hLy6, rfl⟩
  case s5 =>
    intro ac wn hA hF
    have hs : slots 7 (fun i => 7 + i) = [7, 8, 9, 10, 11, 12, 13] := by rfl
    rw [hs] at hA
    have hac := hA.act (fun t ht => by
      have h8 : t = 7 ∨ t = 8 ∨ t = 9 ∨ t = 10 ∨ t = 11 ∨ t = 12 ∨ t = 13 := by simpa using ht
      rcases h8 with rfl | rfl | rfl | rfl | rfl | rfl | rfl <;> exact Nat.lt_of_lt_of_le (by decide : _ < 14) (Nat.le_refl 14))
    rw [List.foldl_cons, List.foldl_cons, List.foldl_cons, List.foldl_cons, List.foldl_cons, List.foldl_cons, List.foldl_cons, List.foldl_nil] at hac
    generalize sl ac 7 = x7 at hac
    generalize sl ac 8 = x8 at hac
    generalize sl ac 9 = x9 at hac
    generalize sl ac 10 = x10 at hac
    generalize sl ac 11 = x11 at hac
    generalize sl ac 12 = x12 at hac
    generalize sl ac 13 = x13 at hac
    clear hA hs
    subst hac
    simp only [Act.put, List.setIfInBounds_toArray, List.set_cons_succ, List.set_cons_zero]
    obtain ⟨wb, ds, hbu, hLd, hwn⟩ := hF
    have HWN := Lib.hid hwn
    clear hwn
    obtain ⟨d0, d1, d2, d3, d4, d4l, d4c, d5, d5l, d5c, rfl⟩ := hLd.six
    have hz := HZ.out.later hbu (by omega)
    go_wp2_with fail
    refine ret_cells wb (w.heap.size + 2) [.int .i64 d0, .bool d1, .int .i64 d2, .string d3, .slice d4 d4l d4c, .slice d5 d5l d5c] HWN.out Tryz.results31 rfl rfl DD.out HU.out Tryz.sizeV (fun i hi => ⟨_, (hz i hi).trans (Array.getElem?_eq_getElem (show i < 6 from hi))⟩) ?_
    exact ⟨_, rfl, (hLd.keep (fun b hb => setRow_heap _ _ _ _ _ (by omega))).weaken (fun b hb => by omega), setRow_below _ (by omega) _ _ _ (bstep HWV.out hbu HWV.out.size)⟩

end Go.Proofs.YtlniokpekcoodaaGreatDoor

/-
  Values laid over others: on the trees alone.
-/
set_option linter.unusedVariables false
set_option linter.unusedSimpArgs false
namespace Go.Proofs.YtlniokpekcoodaaGreatDoor
open Go.RowKit

abbrev Prs := List (ByteArray × T)

/-- Those below a key. -/
def cutB (key : ByteArray) : Prs → Prs
  | [] => []
  | p :: r => if ltS p.1 key = true then p :: cutB key r else []
/-- What stands under it, or nothing. -/
def cutH (key : ByteArray) : Prs → T
  | [] => T.nil
  | p :: r => if ltS p.1 key = true then cutH key r else if p.1 = key then p.2 else T.nil
/-- Those above. -/
def cutA (key : ByteArray) : Prs → Prs
  | [] => []
  | p :: r => if ltS p.1 key = true then cutA key r else if p.1 = key then r else p :: r

mutual
/-- u laid over t. -/
def T.over (t : T) : T → T
  | .mk k b n s l m => if k = 5 then .mk 5 false 0 ⟨#[]⟩ [] (overR t.pairs m) else .mk k b n s l m
termination_by u => SizeOf.sizeOf u
decreasing_by simp only [T.mk.sizeOf_spec]; omega
def overR (rest : Prs) : Prs → Prs
  | [] => rest
  | p :: ps => cutB p.1 rest ++ ((if p.2.kind = 0 then [] else [(p.1, T.over (cutH p.1 rest) p.2)]) ++ overR (cutA p.1 rest) ps)
termination_by m => SizeOf.sizeOf m
decreasing_by
  · obtain ⟨a, b⟩ := p
    simp only [List.cons.sizeOf_spec, Prod.mk.sizeOf_spec]; omega
  · simp only [List.cons.sizeOf_spec]; omega
end

theorem over_map (t : T) (b : Bool) (n : Int) (s : ByteArray) (l : List T) (m : Prs) : T.over t (.mk 5 b n s l m) = .mk 5 false 0 ⟨#[]⟩ [] (overR t.pairs m) := by rw [T.over, if_pos rfl]
theorem over_other (t : T) {k : Int} (b : Bool) (n : Int) (s : ByteArray) (l : List T) (m : Prs) (h : k ≠ 5) : T.over t (.mk k b n s l m) = .mk k b n s l m := by rw [T.over, if_neg h]
theorem overR_nil (rest : Prs) : overR rest [] = rest := by rw [overR]
theorem overR_cons (rest : Prs) (p : ByteArray × T) (ps : Prs) : overR rest (p :: ps) = cutB p.1 rest ++ ((if p.2.kind = 0 then [] else [(p.1, T.over (cutH p.1 rest) p.2)]) ++ overR (cutA p.1 rest) ps) := by rw [overR]

/-- Where a key cuts. -/
theorem cut_at (key : ByteArray) : ∀ (i : Nat) (ps : Prs), i ≤ ps.length → (∀ j (h : j < ps.length), j < i → ltS ps[j].1 key = true) → (∀ h : i < ps.length, ltS ps[i].1 key = false) →
    cutB key ps = ps.take i ∧ ((∃ h : i < ps.length, ps[i].1 = key ∧ cutH key ps = ps[i].2 ∧ cutA key ps = ps.drop (i + 1)) ∨ ((∀ h : i < ps.length, ps[i].1 ≠ key) ∧ cutH key ps = T.nil ∧ cutA key ps = ps.drop i))
  | 0, [], _, _, _ => ⟨rfl, .inr ⟨fun h => absurd h (by simp), rfl, rfl⟩⟩
  | 0, p :: r, _, _, h1 => by
    have hf : ltS p.1 key = false := h1 (by simp)
    have n1 : ¬ ltS p.1 key = true := by simp [hf]
    refine ⟨by rw [cutB, if_neg n1]; rfl, ?_⟩
    by_cases e : p.1 = key
    · exact .inl ⟨by simp, e, by rw [cutH, if_neg n1, if_pos e]; rfl, by rw [cutA, if_neg n1, if_pos e]; rfl⟩
    · exact .inr ⟨fun _ => e, by rw [cutH, if_neg n1, if_neg e], by rw [cutA, if_neg n1, if_neg e]; rfl⟩
  | i + 1, [], h, _, _ => absurd h (by simp)
  | i + 1, p :: r, h, h0, h1 => by
    have hf : ltS p.1 key = true := h0 0 (by simp) (by omega)
    obtain ⟨e1, e2⟩ := cut_at key i r (by simpa using h) (fun j hj hij => by have := h0 (j + 1) (by simpa using hj) (by omega); simpa using this) (fun hi => by have := h1 (by simpa using hi); simpa using this)
    refine ⟨by rw [cutB, if_pos hf, e1]; rfl, ?_⟩
    rcases e2 with ⟨hi, e, a1, a2⟩ | ⟨hn, a1, a2⟩
    · exact .inl ⟨by simpa using hi, by simpa using e, by rw [cutH, if_pos hf, a1]; simp, by rw [cutA, if_pos hf, a2]; simp⟩
    · exact .inr ⟨fun hi => by simpa using hn (by simpa using hi), by rw [cutH, if_pos hf, a1], by rw [cutA, if_pos hf, a2]; simp⟩

theorem cut_len (key : ByteArray) : ∀ ps : Prs, (cutB key ps).length + (cutA key ps).length ≤ ps.length
  | [] => by simp [cutB, cutA]
  | p :: r => by
    have := cut_len key r
    rw [cutB, cutA]
    split
    · simp; omega
    · split <;> simp

end Go.Proofs.YtlniokpekcoodaaGreatDoor

/-
  What is laid over others: what is stripped stays so.
-/
set_option linter.unusedVariables false
set_option linter.unusedSimpArgs false
namespace Go.Proofs.YtlniokpekcoodaaGreatDoor
open Go.RowKit

theorem overR_empty (m : Prs) : overR [] m = (m.filter fun p => decide (p.2.kind ≠ 0)).map fun p => (p.1, T.over T.nil p.2) := by
  induction m with
  | nil => rw [overR_nil]; rfl
  | cons p r ih =>
    rw [overR_cons]
    have e1 : cutB p.1 [] = [] := rfl
    have e2 : cutA p.1 [] = [] := rfl
    have e3 : cutH p.1 [] = T.nil := rfl
    rw [e1, e2, e3, ih, List.nil_append]
    by_cases h : p.2.kind = 0
    · rw [if_pos h, List.filter_cons_of_neg (by simp [h])]; rfl
    · rw [if_neg h, List.filter_cons_of_pos (by simp [h])]; rfl

theorem over_kind (t u : T) : (T.over t u).kind = u.kind := by
  obtain ⟨k, b, n, s, l, m⟩ := u
  by_cases h : k = 5
  · subst h; rw [over_map]; rfl
  · rw [over_other t b n s l m h]

/-- Pairs of what is stripped, and not nothing. -/
def Pl (ps : Prs) : Prop := ∀ p ∈ ps, p.2.kind ≠ 0 ∧ T.over T.nil p.2 = p.2
theorem Pl.same {ps : Prs} (h : Pl ps) : overR [] ps = ps := by
  rw [overR_empty]
  induction ps with
  | nil => rfl
  | cons p r ih =>
    obtain ⟨h1, h2⟩ := h p (by simp)
    rw [List.filter_cons_of_pos (by simp [h1]), List.map_cons, h2, ih fun q hq => h q (by simp [hq])]

theorem nil_pairs : T.nil.pairs = [] := rfl
theorem over_nil_map (b : Bool) (n : Int) (s : ByteArray) (l : List T) (m : Prs) : T.over T.nil (.mk 5 b n s l m) = .mk 5 false 0 ⟨#[]⟩ [] (overR [] m) := by rw [over_map, nil_pairs]

theorem Pl.of_empty {m : Prs} (h : ∀ p ∈ m, T.over T.nil (T.over T.nil p.2) = T.over T.nil p.2) : Pl (overR [] m) := by
  intro q hq
  rw [overR_empty] at hq
  obtain ⟨p, hp, rfl⟩ := List.mem_map.1 hq
  obtain ⟨hp1, hp2⟩ := List.mem_filter.1 hp
  refine ⟨?_, h p hp1⟩
  show (T.over T.nil p.2).kind ≠ 0
  rw [over_kind]
  simpa using hp2

/-- What is stripped is stripped. -/
theorem over_idem (u : T) : T.over T.nil (T.over T.nil u) = T.over T.nil u := by
  induction u using T.ind with
  | h k b n s l m hl hm =>
    by_cases h : k = 5
    · subst h
      rw [over_nil_map, over_nil_map, (Pl.of_empty hm).same]
    · rw [over_other _ b n s l m h, over_other _ b n s l m h]

/-- The pairs of what is stripped. -/
theorem Pl.of_plain {c : T} (h : T.over T.nil c = c) : Pl c.pairs := by
  obtain ⟨k, b, n, s, l, m⟩ := c
  by_cases h5 : k = 5
  · subst h5
    rw [over_nil_map] at h
    have e : overR [] m = m := by injection h
    have : (T.mk 5 b n s l m).pairs = overR [] m := by rw [T.pairs, if_pos rfl, e]
    rw [this]
    exact Pl.of_empty fun p hp => over_idem p.2
  · have : (T.mk k b n s l m).pairs = [] := by rw [T.pairs, if_neg h5]
    rw [this]
    intro p hp; cases hp

theorem cutB_mem {key : ByteArray} : ∀ {ps : Prs} {q : ByteArray × T}, q ∈ cutB key ps → q ∈ ps
  | [], q, h => by cases h
  | p :: r, q, h => by
    rw [cutB] at h
    split at h
    · rcases List.mem_cons.1 h with rfl | h
      · simp
      · exact List.mem_cons_of_mem _ (cutB_mem h)
    · cases h
theorem cutA_mem {key : ByteArray} : ∀ {ps : Prs} {q : ByteArray × T}, q ∈ cutA key ps → q ∈ ps
  | [], q, h => by cases h
  | p :: r, q, h => by
    rw [cutA] at h
    split at h
    · exact List.mem_cons_of_mem _ (cutA_mem h)
    · split at h
      · exact List.mem_cons_of_mem _ h
      · exact h
theorem cutH_mem (key : ByteArray) : ∀ ps : Prs, cutH key ps = T.nil ∨ ∃ q ∈ ps, q.1 = key ∧ q.2 = cutH key ps
  | [] => .inl rfl
  | p :: r => by
    rw [cutH]
    split
    · rcases cutH_mem key r with h | ⟨q, hq, h⟩
      · exact .inl h
      · exact .inr ⟨q, List.mem_cons_of_mem _ hq, h⟩
    · split
      · rename_i h; exact .inr ⟨p, by simp, h, rfl⟩
      · exact .inl rfl
theorem Pl.here {key : ByteArray} {ps : Prs} (h : Pl ps) : Pl (cutH key ps).pairs := by
  rcases cutH_mem key ps with e | ⟨q, hq, _, e⟩
  · rw [e, nil_pairs]; intro p hp; cases hp
  · rw [← e]; exact Pl.of_plain (h q hq).2

theorem Pl.overR {m : Prs} (ih : ∀ p ∈ m, ∀ t : T, Pl t.pairs → T.over T.nil (T.over t p.2) = T.over t p.2) : ∀ {rest : Prs}, Pl rest → Pl (overR rest m) := by
  induction m with
  | nil => intro rest h; rw [overR_nil]; exact h
  | cons p r ihr =>
    intro rest h
    rw [overR_cons]
    have h1 : Pl (Go.Proofs.YtlniokpekcoodaaGreatDoor.overR (cutA p.1 rest) r) := ihr (fun q hq => ih q (by simp [hq])) fun q hq => h q (cutA_mem hq)
    intro q hq
    rcases List.mem_append.1 hq with hq | hq
    · exact h q (cutB_mem hq)
    · rcases List.mem_append.1 hq with hq | hq
      · by_cases h0 : p.2.kind = 0
        · rw [if_pos h0] at hq; cases hq
        · rw [if_neg h0] at hq
          obtain rfl : q = (p.1, T.over (cutH p.1 rest) p.2) := by simpa using hq
          refine ⟨?_, ih p (by simp) _ h.here⟩
          show (T.over _ p.2).kind ≠ 0
          rw [over_kind]; exact h0
      · exact h1 q hq

/-- An empty map is taken for nothing. -/
theorem over_pairs {t t' : T} (u : T) (h : t.pairs = t'.pairs) : T.over t u = T.over t' u := by
  obtain ⟨k, b, n, s, l, m⟩ := u
  by_cases h5 : k = 5
  · subst h5; rw [over_map, over_map, h]
  · rw [over_other _ b n s l m h5, over_other _ b n s l m h5]

end Go.Proofs.YtlniokpekcoodaaGreatDoor
