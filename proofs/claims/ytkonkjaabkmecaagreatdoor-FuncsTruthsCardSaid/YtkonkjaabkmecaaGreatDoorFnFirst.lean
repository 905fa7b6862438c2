/-
  Package funcs' first: the first value that counts so, or the last one.
-/
import Derived.Test.YtkonkjaabkmecaaGreatDoorFnEither
import Derived.Test.YtkonkjaabkmecaaGreatDoorSpecsG
set_option linter.unusedVariables false
set_option linter.unusedSimpArgs false
namespace Go.Proofs.YtkonkjaabkmecaaGreatDoor
open Go.RowKit

/-- The place of the first so; -1: there is none. -/
def firstIx {α : Type} (p : α → Bool) (l : List α) : Int := match l.findIdx? p with | some i => (i : Int) | none => -1
theorem firstIx_none {α : Type} (p : α → Bool) (l : List α) (h : ∀ i (hi : i < l.length), p l[i] = false) : firstIx p l = -1 := by
  unfold firstIx
  rw [List.findIdx?_eq_none_iff.2 fun x hx => by obtain ⟨i, hi, rfl⟩ := List.getElem_of_mem hx; simpa using h i hi]
theorem firstIx_hit {α : Type} (p : α → Bool) (l : List α) (j : Nat) (hj : j < l.length) (h : ∀ i (hi : i < l.length), i < j → p l[i] = false) (he : p l[j] = true) : firstIx p l = j := by
  unfold firstIx
  have : l.findIdx? p = some j := by
    rw [List.findIdx?_eq_some_iff_getElem]
    exact ⟨hj, he, fun i hi => by simpa using h i (by omega) hi⟩
  rw [this]
/-- Does a value count so? -/
def soT (q : Bool) (t : T) : Bool := trT t == q

set_option maxRecDepth 100000 in
set_option maxHeartbeats 2000000 in
theorem ffirst1_any {w0 : World} {R : Nat → Prop} {t : T} {cs : Array Value} (h : Lies w0 R t cs) (q : Bool) (kb : Nat) (w : World) (hk : w.cell? ⟨kb, 0, none⟩ = some (.bool q)) :
    Calls Tryz.prog 134 #[.agg cs, .pointer (some ⟨kb, 0, none⟩)] w fun e w' => e = .returned (.bool (soT q t)) ∧ Below w.heap.size w w' := by
  obtain ⟨a0, a1, a2, a3, a4, a4l, a4c, a5, a5l, a5c, rfl⟩ := h.six
  have hct : countsB a0 a1 a2 a3 a4l a5l = trT t := by cases h; rfl
  have TR : Hid (∀ w', Calls Tryz.prog 31 #[.agg #[.int .i64 a0, .bool a1, .int .i64 a2, .string a3, .slice a4 a4l a4c, .slice a5 a5l a5c]] w' fun e w2 => e = .returned (.bool (trT t)) ∧ Below w'.heap.size w' w2) := fun w' => by
    have h := tTruth_any a0 a1 a2 a3 a4 a4l a4c a5 a5l a5c w'
    rw [hct] at h
    exact h
  unfold soT
  generalize trT t = r at TR
  have hb1 := (Below.refl w.heap.size w).alloc (Nat.le_refl _) (.cells #[.int .i64 a0, .bool a1, .int .i64 a2, .string a3, .slice a4 a4l a4c, .slice a5 a5l a5c] 27)
  have kb0 := cells_frame hb1 hk
  have b1 := Box6.new w #[.int .i64 a0, .bool a1, .int .i64 a2, .string a3, .slice a4 a4l a4c, .slice a5 a5l a5c] 27
  have HB1 := Lib.hid hb1
  have B1 := Lib.hid b1
  clear hct h hk hb1 b1
  go_enter Tryz.func134, Tryz.ntmps134
  go_upto_region 1 with fail
  generalize (w.alloc (.cells #[.int .i64 a0, .bool a1, .int .i64 a2, .string a3, .slice a4 a4l a4c, .slice a5 a5l a5c] 27)) = v at *
  obtain ⟨x0, x1, x2, x3, x4, x5⟩ := B1.out.six
  refine wp_region_specs3 v 5 (fun i => match i with | 0 => 4 | 1 => 5 | 2 => 6 | 3 => 7 | 4 => 3 | _ => 0) (fun i x wx => match i with | 0 => x = .agg #[.int .i64 a0, .bool a1, .int .i64 a2, .string a3, .slice a4 a4l a4c, .slice a5 a5l a5c] | 1 => x = .bool r | 2 => x = .bool q | 3 => x = .bool (r == q) | 4 => x = .bool (r == q) | _ => True) (by kernel_rfl) (by kernel_rfl) ?s1 (Below.refl _ _) ?s2 ?s3 ?s4 ?s5
  case s1 => intro i hi; rcases (by omega : i = 0 ∨ i = 1 ∨ i = 2 ∨ i = 3 ∨ i = 4) with rfl | rfl | rfl | rfl | rfl <;> exact Nat.lt_of_lt_of_le (by decide : _ < 8) (Nat.le_refl 8)
  case s2 =>
    intro i x w1 w2 hb hU
    match i, hU with
    | 1, h => exact h
    | 0, h | 2, h | 3, h | 4, h => exact h
    | (n + 5), _ => trivial
  case s3 =>
    intro i o g b ho hg x w hu
    have hi : i < 5 := (Array.getElem?_eq_some_iff.1 ho).1
    rcases (by omega : i = 0 ∨ i = 1 ∨ i = 2 ∨ i = 3 ∨ i = 4) with rfl | rfl | rfl | rfl | rfl
    · simp at ho; subst ho; cases hg
    · simp at ho; subst ho; cases hg
    · simp at ho; subst ho; cases hg
    · simp at ho; subst ho; cases hg
    · simp at ho; subst ho; cases hg
  case s4 =>
    intro i o ac wb K' ho hi hA hB hdep hK
    have sv2 : ac.tmps[2]?.getD undef = .pointer (some ⟨w.heap.size, 0, none⟩) := hA.sl (t := 2) (by decide)
    have sv1 : ac.tmps[1]?.getD undef = .pointer (some ⟨kb, 0, none⟩) := hA.sl (t := 1) (by decide)
    have x0 := cells_frame hB x0
    have x1 := cells_frame hB x1
    have x2 := cells_frame hB x2
    have x3 := cells_frame hB x3
    have x4 := cells_frame hB x4
    have x5 := cells_frame hB x5
    have kb0 := cells_frame hB kb0
    rcases (by omega : i = 0 ∨ i = 1 ∨ i = 2 ∨ i = 3 ∨ i = 4) with rfl | rfl | rfl | rfl | rfl
    · simp at ho
      subst ho
      clear hdep hA
      go_simp
      exact hK _ wb (Below.refl _ _) rfl
    · simp at ho
      subst ho
      have y0 : ac.tmps[4]?.getD undef = .agg #[.int .i64 a0, .bool a1, .int .i64 a2, .string a3, .slice a4 a4l a4c, .slice a5 a5l a5c] := hdep { on := 0, ground := .data } (by simp) rfl
      clear hdep hA
      go_simp
      refine (TR.out wb).mono ?_
      rintro e w5 ⟨rfl, hb5⟩
      exact hK _ w5 hb5 rfl
    · simp at ho
      subst ho
      clear hdep hA
      go_simp
      exact hK _ wb (Below.refl _ _) rfl
    · simp at ho
      subst ho
      have y1 : ac.tmps[5]?.getD undef = .bool r := hdep { on := 1, ground := .data } (by simp) rfl
      have y2 : ac.tmps[6]?.getD undef = .bool q := hdep { on := 2, ground := .data } (by simp) rfl
      clear hdep hA
      go_simp
      exact hK _ wb (Below.refl _ _) rfl
    · simp at ho
      subst ho
      have y3 : ac.tmps[7]?.getD undef = .bool (r == q) := hdep { on := 3, ground := .data } (by simp) rfl
      clear hdep hA
      go_simp
      exact hK _ wb (Below.refl _ _) rfl
  case s5 =>
    intro ac wn hA hB hU
    have hs : slots 5 (fun i => match i with | 0 => 4 | 1 => 5 | 2 => 6 | 3 => 7 | 4 => 3 | _ => 0) = [4, 5, 6, 7, 3] := by rfl
    rw [hs] at hA
    have hac := hA.act (fun t ht => by
      have h8 : t = 4 ∨ t = 5 ∨ t = 6 ∨ t = 7 ∨ t = 3 := by simpa using ht
      rcases h8 with rfl | rfl | rfl | rfl | rfl <;> exact Nat.lt_of_lt_of_le (by decide : _ < 8) (Nat.le_refl 8))
    rw [List.foldl_cons, List.foldl_cons, List.foldl_cons, List.foldl_cons, List.foldl_cons, List.foldl_nil] at hac
    have HV5 := Lib.hid hB
    have y4 : sl ac 3 = .bool (r == q) := hU 4 (by omega)
    clear hU hB
    generalize sl ac 4 = x4 at hac y4
    generalize sl ac 5 = x5 at hac y4
    generalize sl ac 6 = x6 at hac y4
    generalize sl ac 7 = x7 at hac y4
    generalize sl ac 3 = x3 at hac y4
    subst y4
    subst hac
    simp only [Act.put, List.setIfInBounds_toArray, List.set_cons_succ, List.set_cons_zero]
    go_wp2_with fail
    go_ret
    exact ⟨rfl, bstep HB1.out HV5.out HB1.out.size⟩

set_option maxHeartbeats 400000 in
theorem indexF_any {w0 : World} {R : Nat → Prop} {ts : List T} {a : Option Addr} {cap : Nat} {cl : Nat → Array Value} (h : SliceV w0 R ts a cap cl) (q : Bool) (kb : Nat) (w : World) (hw : Below w0.heap.size w0 w) (hk : w.cell? ⟨kb, 0, none⟩ = some (.bool q)) :
    Calls Tryz.prog 133 #[.slice a ts.length cap, .func (Fn.func 134) #[] #[.pointer (some ⟨kb, 0, none⟩)]] w fun e w' => e = .returned (.int .i64 (firstIx (soT q) ts)) ∧ Below w.heap.size w w' := by
  have hl := h.hdr
  have ll := hl.le
  have lx := hl.big
  have KN := Lib.hid (firstIx_none (soT q) ts)
  have KH := Lib.hid (firstIx_hit (soT q) ts)
  have HC := Lib.hid (fun i (p : i < ts.length) (w : World) (hw : Below w0.heap.size w0 w) (hk : w.cell? ⟨kb, 0, none⟩ = some (.bool q)) => ffirst1_any (h.each i p) q kb w hk)
  go_enter Tryz.func133, Tryz.ntmps133
  go_wp2_with fail
  go_loopw [5, 8] (fun _ vi wr => ∃ j : Nat, j ≤ ts.length ∧ vi = .int .i64 j ∧ Hid (∀ i (hi : i < ts.length), i < j → soT q ts[i] = false) ∧ Below w.heap.size w wr) (fun _ vi _ => ts.length - (intOf vi).toNat)
  case atStart => exact ⟨0, by omega, rfl, fun i _ hi => absurd hi (Nat.not_lt_zero _), Below.refl _ _⟩
  case round =>
    obtain ⟨j, hj, rfl, h0, hbw⟩ := hrel
    have hbw2 := bstep hw hbw hw.size
    have hk2 := cells_frame hbw hk
    by_cases hjl : j < ts.length
    · have KJ := Lib.hid (KH.out j hjl h0.out)
      have CJ := Lib.hid (HC.out j hjl)
      obtain ⟨bl, ol, c0, c1, c2, c3, c4, c4l, c4c, c5, c5l, c5c, rfl, hcl, r0, r1, r2, r3, r4, r5⟩ := openL hbw2 hl h.rows hjl (h.each j hjl)
      rw [hcl] at CJ
      clear hcl
      go_wp2_with fail
      refine (CJ.out _ hbw2 hk2).mono ?_
      rintro e w1 ⟨rfl, hb1⟩
      have hb2 := bstep hbw hb1 hbw.size
      cases hd : soT q ts[j] with
      | true =>
        have HR := Lib.hid (KJ.out hd)
        clear hd
        go_wp2_with fail
        go_ret
        exact ⟨ret_int HR.out.symm, hb2⟩
      | false =>
        have HR := Lib.hid hd
        clear hd
        go_wp2_with fail
        go_roundw
        case rel => exact ⟨j + 1, by omega, by go_num, fun i hi hij => by
          by_cases e : i = j
          · subst e; exact HR.out
          · exact h0.out i hi (by omega), hb2⟩
        case measure => simp [intOf]; omega
    · obtain rfl : j = ts.length := by omega
      have HR := Lib.hid (KN.out fun i hi => h0.out i hi hi)
      go_wp2_with fail
      go_ret
      exact ⟨ret_int HR.out.symm, hbw⟩

theorem soT_lt (q : Bool) (ts : List T) (i : Nat) (h : ts.findIdx? (soT q) = some i) : i < ts.length := (List.findIdx?_eq_some_iff_getElem.1 h).1
/-- Which one first takes. -/
def pickN (q : Bool) (ts : List T) : Nat := match ts.findIdx? (soT q) with | some i => i | none => ts.length - 1
theorem pickN_lt {q : Bool} {ts : List T} (h : 0 < ts.length) : pickN q ts < ts.length := by
  unfold pickN
  cases hx : ts.findIdx? (soT q) with
  | some i => exact soT_lt q ts i hx
  | none => show ts.length - 1 < _; omega

set_option maxHeartbeats 1000000 in
theorem ffirst_any {w0 : World} {R : Nat → Prop} {ts : List T} {a : Option Addr} {cap : Nat} {cl : Nat → Array Value} (h : SliceV w0 R ts a cap cl) (q : Bool) (h0 : 0 < ts.length) (w : World) (hw : Below w0.heap.size w0 w) :
    Calls Tryz.prog 82 #[.slice a ts.length cap, .bool q] w (Cloned w (ts[pickN q ts]'(pickN_lt h0))) := by
  have hl := h.hdr
  have ll := hl.le
  have lx := hl.big
  obtain ⟨dd, hu, hdd⟩ := Tryz.structV
  have DD := Lib.hid hdd
  have HU := Lib.hid hu
  clear hdd hu
  have hbv : Below w.heap.size w ((w.alloc (.cells #[.bool q] 4)).alloc (.cells zeroV 27)) := ((Below.refl _ _).alloc (Nat.le_refl _) _).alloc (by simp) _
  have k0 : ((w.alloc (.cells #[.bool q] 4)).alloc (.cells zeroV 27)).cell? ⟨w.heap.size, 0, none⟩ = some (.bool q) := by
    rw [World.cell?_alloc_lt _ _ _ (by simp), World.cell?_alloc_new]; rfl
  have bz := Box6.new (w.alloc (.cells #[.bool q] 4)) zeroV 27
  have tz := Thaw.new (w.alloc (.cells #[.bool q] 4)) zeroV 27
  have es : ((w.alloc (.cells #[.bool q] 4)).alloc (.cells zeroV 27)).heap.size = w.heap.size + 2 := by simp
  rw [World.size_alloc] at bz tz
  have HB1 := Lib.hid hbv
  have K0 := Lib.hid k0
  have BZ := Lib.hid bz
  have TZ := Lib.hid tz
  have ES := Lib.hid es
  clear hbv k0 bz tz es
  obtain ⟨r, hr⟩ : ∃ r, r = ts[pickN q ts]'(pickN_lt h0) := ⟨_, rfl⟩
  obtain ⟨j, hj⟩ : ∃ j, j = pickN q ts := ⟨_, rfl⟩
  have hjl : j < ts.length := by rw [hj]; exact pickN_lt h0
  have hrj : r = ts[j] := by subst hj; exact hr
  rw [← hr]
  have HRJ := Lib.hid hrj
  have HW := Lib.hid hw
  clear hrj hr
  go_enter Tryz.func82, Tryz.ntmps82
  go_upto_region 1 with fail
  generalize ((w.alloc (.cells #[.bool q] 4)).alloc (.cells zeroV 27)) = v at *
  have hvs := Nat.le_of_eq ES.out.symm
  have IX := Lib.hid (indexF_any h q w.heap.size v (bstep HW.out HB1.out HW.out.size) K0.out)
  have MID : Hid (firstIx (soT q) ts = -1 ∧ j = ts.length - 1 ∨ firstIx (soT q) ts = (j : Int)) := by
    unfold firstIx
    unfold pickN at hj
    cases hx : ts.findIdx? (soT q) with
    | some i => rw [hx] at hj; subst hj; exact .inr rfl
    | none => rw [hx] at hj; subst hj; exact .inl ⟨rfl, rfl⟩
  generalize firstIx (soT q) ts = ix at IX MID
  clear hj
  go_upto_region 2 with (go_at_call 133; refine IX.out.mono ?_; rintro e w1 ⟨rfl, hb⟩; have HB2 := Lib.hid hb; clear hb)
  have HW1 := Lib.hid (bstep HW.out (bstep HB1.out HB2.out HB1.out.size) HW.out.size)
  have hs1 := HB2.out.size
  obtain ⟨bl, ol, c0, c1, c2, c3, c4, c4l, c4c, c5, c5l, c5c, rfl, hcl, r0, r1, r2, r3, r4, r5⟩ := openL HW1.out hl h.rows hjl (h.each j hjl)
  have CL := Lib.hid (fun w' (hw' : Below w0.heap.size w0 w') => tClone_any (h.each j hjl) w' hw')
  rw [hcl, ← HRJ.out] at CL
  clear hcl
  have FIN : ∀ w5, Below v.heap.size v w5 → ∀ ds : List Value, ds.length = 6 → Lies w5 (fun b => w.heap.size + 2 ≤ b) r ds.toArray → Below w.heap.size w (setRow w5 (w.heap.size + 1) 0 ds) ∧ Lies (setRow w5 (w.heap.size + 1) 0 ds) (fun b => w.heap.size ≤ b) r ds.toArray := fun w5 hb5 ds hlen hL =>
    ⟨setRow_below _ (by omega) _ _ _ (bstep HB1.out hb5 HB1.out.size), (hL.keep (w' := setRow w5 (w.heap.size + 1) 0 ds) (fun b hb => setRow_heap _ _ _ _ _ (by omega))).weaken fun b hb => by omega⟩
  have FINH := Lib.hid FIN
  clear FIN
  rcases MID.out with ⟨hix, hje⟩ | hix
  · have e1 : (ts.length : Int) - 1 = (j : Int) := by omega
    have E1 := Lib.hid e1
    rw [hix]
    clear MID hje hix e1
    go_upto_region 4 with fail
    rw [E1.out]
    go_wp2_with fail
    refine (CL.out _ HW1.out).mono ?_
    rintro e w5 ⟨ds, rfl, hL, hb5⟩
    obtain ⟨m0, m1, m2, m3, m4, m4l, m4c, m5, m5l, m5c, rfl⟩ := hL.six
    have hb6 := bstep HB2.out hb5 HB2.out.size
    have HV5 := Lib.hid hb6
    obtain ⟨c0', c1', c2', c3', c4', c5'⟩ := (BZ.out.later HV5.out (by omega)).six
    obtain ⟨f0, f1, f2, f3, f4, f5⟩ := (TZ.out.later HV5.out (by omega)).six
    have HL := Lib.hid (hL.weaken (R' := fun b => w.heap.size + 2 ≤ b) fun b hb => by omega)
    clear hL hb5 hb6
    go_wp2_with fail
    refine ret_cells w5 (w.heap.size + 1) [.int .i64 m0, .bool m1, .int .i64 m2, .string m3, .slice m4 m4l m4c, .slice m5 m5l m5c] rfl Tryz.results82 rfl rfl DD.out HU.out Tryz.sizeV ((BZ.out.later HV5.out (by omega)).cells rfl) ?_
    have hf := FINH.out w5 HV5.out [.int .i64 m0, .bool m1, .int .i64 m2, .string m3, .slice m4 m4l m4c, .slice m5 m5l m5c] rfl HL.out
    exact ⟨_, rfl, hf.2, hf.1⟩
  · rw [hix]
    have hd : decide ((j : Int) < 0) = false := by simp
    clear MID hix
    go_wp2_with fail
    refine (CL.out _ HW1.out).mono ?_
    rintro e w5 ⟨ds, rfl, hL, hb5⟩
    obtain ⟨m0, m1, m2, m3, m4, m4l, m4c, m5, m5l, m5c, rfl⟩ := hL.six
    have hb6 := bstep HB2.out hb5 HB2.out.size
    have HV5 := Lib.hid hb6
    obtain ⟨c0', c1', c2', c3', c4', c5'⟩ := (BZ.out.later HV5.out (by omega)).six
    obtain ⟨f0, f1, f2, f3, f4, f5⟩ := (TZ.out.later HV5.out (by omega)).six
    have HL := Lib.hid (hL.weaken (R' := fun b => w.heap.size + 2 ≤ b) fun b hb => by omega)
    clear hL hb5 hb6
    go_wp2_with fail
    refine ret_cells w5 (w.heap.size + 1) [.int .i64 m0, .bool m1, .int .i64 m2, .string m3, .slice m4 m4l m4c, .slice m5 m5l m5c] rfl Tryz.results82 rfl rfl DD.out HU.out Tryz.sizeV ((BZ.out.later HV5.out (by omega)).cells rfl) ?_
    have hf := FINH.out w5 HV5.out [.int .i64 m0, .bool m1, .int .i64 m2, .string m3, .slice m4 m4l m4c, .slice m5 m5l m5c] rfl HL.out
    exact ⟨_, rfl, hf.2, hf.1⟩

end Go.Proofs.YtkonkjaabkmecaaGreatDoor
