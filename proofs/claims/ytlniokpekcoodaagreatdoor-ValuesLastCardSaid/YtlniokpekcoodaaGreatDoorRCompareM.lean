/-
  The reference's Compare: it is package tree's.
-/
import Derived.Test.YtlniokpekcoodaaGreatDoorGoodM
import Derived.Test.YtlniokpekcoodaaGreatDoorCloneP
import Derived.Lib.QuietBelow
import Derived.Test.YtlniokpekcoodaaGreatDoorRightM
import Derived.Test.YtlniokpekcoodaaGreatDoorRSame
import Derived.Test.YtlniokpekcoodaaGreatDoorLaid
import Derived.Test.YtlniokpekcoodaaGreatDoorPathCM
set_option linter.unusedVariables false
set_option linter.unusedSimpArgs false
namespace Go.Proofs.YtlniokpekcoodaaGreatDoor
open Go.RowKit Go.Sort

def befV (a b : Bool) : Int := if a = true then -1 else if b = true then 1 else 0
theorem below_of_eq {P : Program} {f : FuncId} {args : Array Value} {w : World} {v : Value} (h : Calls P f args w fun e w' => e = .returned v ∧ w = w') : Calls P f args w fun e w' => e = .returned v ∧ Below w.heap.size w w' :=
  h.mono fun e w' h => ⟨h.1, h.2 ▸ Below.refl _ _⟩

theorem bytesLess_G : ∀ a b : List UInt8, cmpG cmpU a b = befV (Op.bytesLess a b) (Op.bytesLess b a)
  | [], [] => by rw [cmpG]; simp [Op.bytesLess, befV]
  | [], _ :: _ => by rw [cmpG]; simp [Op.bytesLess, befV]
  | _ :: _, [] => by rw [cmpG]; simp [Op.bytesLess, befV]
  | x :: r, y :: q => by
    rw [cmpG, bytesLess_G r q, Op.bytesLess, Op.bytesLess]
    unfold cmpU cmpI befV
    by_cases h : x.toNat < y.toNat
    · simp [h, UInt8.lt_iff_toNat_lt]
    · by_cases h2 : y.toNat < x.toNat
      · have hne : x ≠ y := fun e => by subst e; omega
        simp [h, h2, UInt8.lt_iff_toNat_lt, hne]
      · have e : x = y := by
          have : x.toNat = y.toNat := by omega
          exact UInt8.toNat_inj.1 this
        subst e
        simp
theorem cmpS_less (a b : ByteArray) : cmpS a b = befV (Op.bytesLess a.toList b.toList) (Op.bytesLess b.toList a.toList) := by
  unfold cmpS
  rw [compareBytes_G, bytesLess_G, ByteArray.toList_eq, ByteArray.toList_eq]
theorem cmpS_ne {a b : ByteArray} (h : a ≠ b) : cmpS a b ≠ 0 := fun e => h (cmpS_zero e)
theorem cmpS_before {a b : ByteArray} (h : a ≠ b) : cmpS a b = befV (Op.bytesLess a.toList b.toList) true := by
  unfold befV
  have h1 := cmpS_less a b
  unfold befV at h1
  have h2 := cmpS_ne h
  by_cases e : Op.bytesLess a.toList b.toList = true
  · rw [if_pos e] at h1 ⊢; exact h1
  · rw [if_neg e] at h1 ⊢
    by_cases e2 : Op.bytesLess b.toList a.toList = true
    · rw [if_pos e2] at h1; rw [h1]; rfl
    · rw [if_neg e2] at h1; exact absurd h1 h2
theorem less_gtr (a b : ByteArray) : Op.bytesLess b.toList a.toList = (!Op.bytesLess a.toList b.toList && !a.toList == b.toList) := by
  have h1 := cmpS_less a b
  have h2 := cmpS_less b a
  have h3 := (ord_cmpS a).anti b
  rw [h1, h2] at h3
  by_cases e : a = b
  · subst e
    cases hx : Op.bytesLess a.toList a.toList with
    | true => rw [hx] at h3; exact absurd h3 (by decide)
    | false => simp
  · rw [str_ne e]
    have h4 := cmpS_ne e
    rw [h1] at h4
    revert h3 h4
    cases Op.bytesLess a.toList b.toList <;> cases Op.bytesLess b.toList a.toList <;> decide
theorem cmpS_gtr (a b : ByteArray) : cmpS a b = befV (Op.bytesLess a.toList b.toList) (!Op.bytesLess a.toList b.toList && !a.toList == b.toList) := (cmpS_less a b).trans (congrArg (befV _) (less_gtr a b))
theorem cmpP_key {p q : ByteArray × T} (h : p.1 ≠ q.1) : cmpP p q = cmpS p.1 q.1 := by unfold cmpP; rw [if_pos h]

end Go.Proofs.YtlniokpekcoodaaGreatDoor

/-
  TreeCompares, walked.
-/
set_option linter.unusedVariables false
set_option linter.unusedSimpArgs false
namespace Go.Proofs.YtlniokpekcoodaaGreatDoor
open Go.RowKit Go.Sort

/-- Two values behind each other in a new block. -/
theorem two_values {w1 : World} {R1 R2 : Nat → Prop} {t u : T} {k k' : Int} {b b' : Bool} {n n' : Int} {s s' : ByteArray} {la la' : Option Addr} {ll ll' lc lc' : Nat} {ma ma' : Option Addr} {ml ml' mc mc' : Nat}
    (h1 : Lies w1 R1 t #[.int .i64 k, .bool b, .int .i64 n, .string s, .slice la ll lc, .slice ma ml mc]) (h2 : Lies w1 R2 u #[.int .i64 k', .bool b', .int .i64 n', .string s', .slice la' ll' lc', .slice ma' ml' mc']) :
    SliceV (w1.alloc (.cells #[.int .i64 k, .bool b, .int .i64 n, .string s, .slice la ll lc, .slice ma ml mc, .int .i64 k', .bool b', .int .i64 n', .string s', .slice la' ll' lc', .slice ma' ml' mc'] 25)) (fun _ => True) [t, u] (some ⟨w1.heap.size, 0, none⟩) 2
      (fun i => if i = 0 then #[.int .i64 k, .bool b, .int .i64 n, .string s, .slice la ll lc, .slice ma ml mc] else #[.int .i64 k', .bool b', .int .i64 n', .string s', .slice la' ll' lc', .slice ma' ml' mc']) := by
  have hb := Below.alloc (Below.refl w1.heap.size w1) (Nat.le_refl _) (.cells #[.int .i64 k, .bool b, .int .i64 n, .string s, .slice la ll lc, .slice ma ml mc, .int .i64 k', .bool b', .int .i64 n', .string s', .slice la' ll' lc', .slice ma' ml' mc'] 25)
  refine ⟨⟨Nat.le_refl 2, (by decide : 2 * 88 ≤ 140737488355328), by simp, fun _ => ⟨_, _, rfl, trivial⟩, by omega⟩, fun i hi bl ol e => ?_, fun i hi => ?_⟩
  · simp only [Option.some.injEq, Addr.mk.injEq, and_true] at e
    obtain ⟨rfl, rfl⟩ := e
    have hi3 : i < 2 := hi
    intro j hj
    have hj6 : j < 6 := by
      rcases (by omega : i = 0 ∨ i = 1) with rfl | rfl <;> exact hj
    rw [Nat.zero_add, World.cell?_alloc_new]
    rcases (by omega : i = 0 ∨ i = 1) with rfl | rfl <;> rcases (by omega : j = 0 ∨ j = 1 ∨ j = 2 ∨ j = 3 ∨ j = 4 ∨ j = 5) with rfl | rfl | rfl | rfl | rfl | rfl <;> rfl
  · have hi3 : i < 2 := hi
    rcases (by omega : i = 0 ∨ i = 1) with rfl | rfl
    · exact (h1.later hb).weaken fun _ _ => trivial
    · exact (h2.later hb).weaken fun _ _ => trivial

/-- The boxes of two arguments, later. -/
theorem arg_boxes2 {w wr : World} {A B : Array Value} {t1 t2 : TypeId} {o3 : Obj} {N : Nat} (h : Below N (((w.alloc (.cells A t1)).alloc (.cells B t2)).alloc o3) wr) (hN : w.heap.size + 2 ≤ N) (j : Nat) :
    wr.cell? ⟨w.heap.size, j, none⟩ = A[j]? ∧ wr.cell? ⟨w.heap.size + 1, j, none⟩ = B[j]? := by
  have e1 : w.heap.size + 1 = (w.alloc (.cells A t1)).heap.size := by simp
  refine ⟨?_, ?_⟩
  · rw [h.cell (p := ⟨w.heap.size, j, none⟩) (by simp only; omega), World.cell?_alloc_lt _ _ _ (by simp; omega), World.cell?_alloc_lt _ _ _ (by simp), World.cell?_alloc_new]
  · rw [h.cell (p := ⟨w.heap.size + 1, j, none⟩) (by simp only; omega), World.cell?_alloc_lt _ _ _ (by simp), e1, World.cell?_alloc_new]

end Go.Proofs.YtlniokpekcoodaaGreatDoor

/-
  The reference's Get.
-/
set_option linter.unusedVariables false
set_option linter.unusedSimpArgs false
namespace Go.Proofs.YtlniokpekcoodaaGreatDoor
open Go.RowKit Go.Sort

theorem alloc_snd {v w : World} {cs zs : Array Value} {ty tz : TypeId} (h : Below ((v.alloc (.cells cs ty)).alloc (.cells zs tz)).heap.size ((v.alloc (.cells cs ty)).alloc (.cells zs tz)) w) :
    (∀ j, w.cell? ⟨v.heap.size + 1, j, none⟩ = zs[j]?) ∧ (∀ j, w.frozen? ⟨v.heap.size + 1, j, none⟩ = false) ∧ Below v.heap.size v w ∧ v.heap.size + 1 < w.heap.size := by
  have e : (v.alloc (.cells cs ty)).heap.size = v.heap.size + 1 := by simp
  have y := one_boxL (w := v.alloc (.cells cs ty)) h
  rw [e] at y
  refine ⟨y.1, y.2, bstep ((Below.refl _ _).alloc (Nat.le_refl _) (.cells cs ty)) (bstep ((Below.refl _ _).alloc (Nat.le_refl _) (.cells zs tz)) h (by simp)) (by simp), ?_⟩
  have := h.size
  simp at this
  omega
theorem findR_at {key : ByteArray} : ∀ (m : Prs) (j : Nat) (hj : j < m.length), (∀ i (hi : i < m.length), i < j → m[i].1 ≠ key) → m[j].1 = key → findR key m = some m[j].2
  | p :: r, 0, _, _, he => findR_here he
  | p :: r, j + 1, hj, h0, he => by
    rw [findR_skip (by have := h0 0 (by simp) (by omega); exact this)]
    exact findR_at r j (by simpa using hj) (fun i hi hij => by have := h0 (i + 1) (by simpa using hi) (by omega); simpa using this) (by simpa using he)
theorem findR_no {key : ByteArray} {m : Prs} (h : ∀ i (hi : i < m.length), i < m.length → m[i].1 ≠ key) : findR key m = none := findR_none fun q hq => by
  obtain ⟨i, hi, rfl⟩ := List.getElem_of_mem hq
  exact h i hi hi

/-- What the reference's Get hands back. -/
def RGot (w0 : World) (R : Nat → Prop) (w : World) (r : Option T) (e : Ending) (w' : World) : Prop := ∃ ds, e = .returned (.tuple #[.agg ds, .bool r.isSome]) ∧ Lies w' (fun b => R b ∧ b < w0.heap.size) (r.getD T.nil) ds ∧ Below w.heap.size w w'

set_option maxRecDepth 100000 in
set_option maxHeartbeats 2000000 in
theorem rGet_any {w0 : World} {R : Nat → Prop} {t : T} {cs : Array Value} (h : Lies w0 R t cs) (key : ByteArray) (w : World) (hw : Below w0.heap.size w0 w) :
    Calls Tryz.prog 34 #[.agg cs, .string key] w (RGot w0 R w (findR key t.map)) := by
  cases h with
  | mk k b n s l m la lc ma mc cl cm hk hn hs hl hm rl rm ks il im =>
    have HM : Hid (SliceP w0 R m ma mc cm) := ⟨hm, rm, ks, im⟩
    have FA := Lib.hid (findR_at (key := key) m)
    have FN := Lib.hid (findR_no (key := key) (m := m))
    have hle := hm.le
    have hbig := hm.big
    have hmap : (T.mk k b n s l m).map = m := rfl
    rw [hmap]
    have A2 := Lib.hid (((Below.refl w.heap.size w).alloc (Nat.le_refl _) (.cells #[.int .i64 k, .bool b, .int .i64 n, .string s, .slice la l.length lc, .slice ma m.length mc] 25)).alloc (by simp) (.cells #[.int .i64 0, .bool false, .int .i64 0, .string ⟨#[]⟩, .slice none 0 0, .slice none 0 0] 25))
    obtain ⟨y3, y4, _, hlt⟩ := alloc_snd (v := w) (cs := #[.int .i64 k, .bool b, .int .i64 n, .string s, .slice la l.length lc, .slice ma m.length mc]) (zs := #[.int .i64 0, .bool false, .int .i64 0, .string ⟨#[]⟩, .slice none 0 0, .slice none 0 0]) (ty := 25) (tz := 25) (Below.refl _ _)
    have x5 : ((w.alloc (.cells #[.int .i64 k, .bool b, .int .i64 n, .string s, .slice la l.length lc, .slice ma m.length mc] 25)).alloc (.cells #[.int .i64 0, .bool false, .int .i64 0, .string ⟨#[]⟩, .slice none 0 0, .slice none 0 0] 25)).cell? ⟨w.heap.size, 5, none⟩ = some (.slice ma m.length mc) := (one_boxL ((Below.refl _ _).alloc (Nat.le_refl _) _)).1 5
    clear hk hn hs hl hm rl rm ks il im hmap
    obtain ⟨dd, hu, hdd⟩ := Tryz.structV
    have DD := Lib.hid hdd
    have HU := Lib.hid hu
    clear hu hdd
    go_enter Tryz.func34, Tryz.ntmps34
    go_wp2_with fail
    generalize hv : (w.alloc (.cells #[.int .i64 k, .bool b, .int .i64 n, .string s, .slice la l.length lc, .slice ma m.length mc] 25)).alloc (.cells #[.int .i64 0, .bool false, .int .i64 0, .string ⟨#[]⟩, .slice none 0 0, .slice none 0 0] 25) = v at *
    have Y3 := Lib.hid y3
    have Y4 := Lib.hid y4
    have HLT := Lib.hid hlt
    have HW := Lib.hid (bstep hw A2.out hw.size)
    clear hv y3 y4 hlt
    go_loopw [6] (fun vi wr => ∃ j : Nat, j ≤ m.length ∧ vi = .int .i64 j ∧ Hid (∀ i (hi : i < m.length), i < j → m[i].1 ≠ key) ∧ wr = v) (fun vi _ => m.length - (intOf vi).toNat)
    case atStart => exact ⟨0, by omega, rfl, fun i _ hi => absurd hi (Nat.not_lt_zero _), rfl⟩
    case round =>
      obtain ⟨j, hj, rfl, h0, rfl⟩ := hrel
      by_cases hjl : j < m.length
      · obtain ⟨bl, ol, c0, c1, c2, c3, c4, c4l, c4c, c5, c5l, c5c, rfl, hc, r0, r1, r2, r3, r4, r5, r6⟩ := openM HW.out HM.out.hdr HM.out.rows hjl (HM.out.each j hjl)
        have hLx := HM.out.each j hjl
        rw [hc] at hLx
        have HLX := Lib.hid hLx
        clear hc hLx
        by_cases he : m[j].1 = key
        · have f1 : (m[j].1.toList == key.toList) = true := by rw [he]; simp
          have HE := Lib.hid (FA.out j hjl h0.out he)
          have z2 := Y3.out
          have f2 := Y4.out
          clear he
          go_wp2_with fail
          rw [HE.out]
          have hl2 := HLT.out
          refine ret_cells_tmp wr (w.heap.size + 1) [.int .i64 c0, .bool c1, .int .i64 c2, .string c3, .slice c4 c4l c4c, .slice c5 c5l c5c] rfl Tryz.results34 rfl rfl DD.out HU.out Tryz.sizeV (fun i hi => ⟨_, (Y3.out i).trans (Array.getElem?_eq_getElem (show i < 6 from hi))⟩) ?_
          exact ⟨_, rfl, ((HLX.out.bound.later HW.out).keep (fun x hx => setRow_heap _ [.int .i64 c0, .bool c1, .int .i64 c2, .string c3, .slice c4 c4l c4c, .slice c5 c5l c5c] _ _ _ (by have := hx.2; have := hw.size; omega))), setRow_below _ (by omega) [.int .i64 c0, .bool c1, .int .i64 c2, .string c3, .slice c4 c4l c4c, .slice c5 c5l c5c] _ _ A2.out⟩
        · have f1 := str_ne he
          have H1 : Hid (∀ i (hi : i < m.length), i < j + 1 → m[i].1 ≠ key) := fun i hi hij => by
            by_cases e : i = j
            · subst e; exact he
            · exact h0.out i hi (by omega)
          clear he
          go_wp2_with fail
          go_roundw
          case rel => exact ⟨j + 1, by omega, by go_num, H1, trivial⟩
          case measure => simp [intOf]; omega
      · obtain rfl : j = m.length := by omega
        have HE := Lib.hid (FN.out h0.out)
        have z2 := Y3.out
        have f2 := Y4.out
        go_wp2_with fail
        rw [HE.out]
        have hl2 := HLT.out
        refine ret_cells_tmp wr (w.heap.size + 1) [.int .i64 0, .bool false, .int .i64 0, .string ⟨#[]⟩, .slice none 0 0, .slice none 0 0] rfl Tryz.results34 rfl rfl DD.out HU.out Tryz.sizeV (fun i hi => ⟨_, (Y3.out i).trans (Array.getElem?_eq_getElem (show i < 6 from hi))⟩) ?_
        exact ⟨_, rfl, nil_lies _ _, setRow_below _ (by omega) [.int .i64 0, .bool false, .int .i64 0, .string ⟨#[]⟩, .slice none 0 0, .slice none 0 0] _ _ A2.out⟩

end Go.Proofs.YtlniokpekcoodaaGreatDoor
