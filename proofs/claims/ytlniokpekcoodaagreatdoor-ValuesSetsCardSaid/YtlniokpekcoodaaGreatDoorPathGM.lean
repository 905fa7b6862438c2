/-
  Package path's place, child, find, Get.
-/
import Derived.Test.YtlniokpekcoodaaGreatDoorGetM
import Derived.Test.YtlniokpekcoodaaGreatDoorOpenM
import Derived.Deep.DeepCutAuto
import Derived.Test.YtlniokpekcoodaaGreatDoorVals
import Derived.Lib.Bytealg
set_option linter.unusedVariables false
set_option linter.unusedSimpArgs false
namespace Go.Proofs.YtlniokpekcoodaaGreatDoor
open Go.RowKit

theorem place1_any (p : ByteArray × T) (k : Int) (b : Bool) (n : Int) (s : ByteArray) (la : Option Addr) (ll lc : Nat) (ma : Option Addr) (ml mc : Nat) (key : ByteArray) (kb : Nat) (w : World) (hk : w.cell? ⟨kb, 0, none⟩ = some (.string key)) :
    Calls Tryz.prog 143 #[.agg #[.string p.1, .int .i64 k, .bool b, .int .i64 n, .string s, .slice la ll lc, .slice ma ml mc], .pointer (some ⟨kb, 0, none⟩)] w fun e w' => e = .returned (.bool (decide (p.1 = key))) ∧ Below w.heap.size w w' := by
  have hlt := World.block_lt_of_cell? _ _ hk
  have hne : kb ≠ w.heap.size := by simp at hlt; omega
  have HB := Lib.hid ((Below.refl w.heap.size w).alloc (Nat.le_refl _) (.cells #[.string p.1, .int .i64 k, .bool b, .int .i64 n, .string s, .slice la ll lc, .slice ma ml mc] 51))
  have hk2 : (w.alloc (.cells #[.string p.1, .int .i64 k, .bool b, .int .i64 n, .string s, .slice la ll lc, .slice ma ml mc] 51)).cell? ⟨kb, 0, none⟩ = some (.string key) := by rw [World.cell?_alloc_lt _ _ _ hlt]; exact hk
  by_cases h : p.1 = key
  · have HR := Lib.hid (decide_eq_true h)
    have e1 : (p.1.toList == key.toList) = true := by rw [h]; simp
    clear h
    go_enter Tryz.func143, Tryz.ntmps143
    go_wp2_with fail
    go_ret
    exact ⟨ret_bool (by rw [HR.out]), HB.out⟩
  · have HR := Lib.hid (decide_eq_false h)
    have e1 := str_ne h
    clear h
    go_enter Tryz.func143, Tryz.ntmps143
    go_wp2_with fail
    go_ret
    exact ⟨ret_bool (by rw [HR.out]), HB.out⟩

set_option maxHeartbeats 400000 in
theorem indexL_any {w0 : World} {R : Nat → Prop} {ps : List (ByteArray × T)} {a : Option Addr} {cap : Nat} {cm : Nat → Array Value} (h : SliceP w0 R ps a cap cm) (key : ByteArray) (kb : Nat) (w : World) (hw : Below w0.heap.size w0 w) (hk : w.cell? ⟨kb, 0, none⟩ = some (.string key)) :
    Calls Tryz.prog 50 #[.slice a ps.length cap, .func (Fn.func 143) #[] #[.pointer (some ⟨kb, 0, none⟩)]] w fun e w' => e = .returned (.int .i64 (keyIx ps key)) ∧ Below w.heap.size w w' := by
  have hl := h.hdr
  have ll := hl.le
  have lx := hl.big
  have KN := Lib.hid (keyIx_none ps key)
  have KH := Lib.hid (keyIx_hit ps key)
  go_enter Tryz.func50, Tryz.ntmps50
  go_wp2_with fail
  go_loopw [8] (fun vi wr => ∃ j : Nat, j ≤ ps.length ∧ vi = .int .i64 j ∧ Hid (∀ i (hi : i < ps.length), i < j → ps[i].1 ≠ key) ∧ Below w.heap.size w wr) (fun vi _ => ps.length - (intOf vi).toNat)
  case atStart => exact ⟨0, by omega, rfl, fun i _ hi => absurd hi (Nat.not_lt_zero _), Below.refl _ _⟩
  case round =>
    obtain ⟨j, hj, rfl, h0, hbw⟩ := hrel
    have hbw2 := bstep hw hbw hw.size
    have hk2 := cells_frame hbw hk
    by_cases hjl : j < ps.length
    · have KJ := Lib.hid (KH.out j hjl h0.out)
      obtain ⟨bl, ol, c0, c1, c2, c3, c4, c4l, c4c, c5, c5l, c5c, rfl, hc, r0, r1, r2, r3, r4, r5, r6⟩ := openM hbw2 hl h.rows hjl (h.each j hjl)
      clear hc
      go_wp2_with fail
      refine (place1_any ps[j] c0 c1 c2 c3 c4 c4l c4c c5 c5l c5c key kb _ hk2).mono ?_
      rintro e w1 ⟨rfl, hb1⟩
      have hb2 := bstep hbw hb1 hbw.size
      by_cases he : ps[j].1 = key
      · have HR := Lib.hid (KJ.out he)
        rw [decide_eq_true he]
        clear he
        go_wp2_with fail
        go_ret
        exact ⟨ret_int HR.out.symm, hb2⟩
      · have HR := Lib.hid he
        rw [decide_eq_false he]
        clear he
        go_wp2_with fail
        go_roundw
        case rel => exact ⟨j + 1, by omega, by go_num, fun i hi hij => by
          by_cases e : i = j
          · subst e; exact HR.out
          · exact h0.out i hi (by omega), hb2⟩
        case measure => simp [intOf]; omega
    · obtain rfl : j = ps.length := by omega
      have HR := Lib.hid (KN.out fun i hi => h0.out i hi hi)
      go_wp2_with fail
      go_ret
      exact ⟨ret_int HR.out.symm, hbw⟩

set_option maxHeartbeats 400000 in
theorem place_any {w0 : World} {R : Nat → Prop} {t : T} {cs : Array Value} (h : Lies w0 R t cs) (key : ByteArray) (w : World) (hw : Below w0.heap.size w0 w) :
    Calls Tryz.prog 119 #[.agg cs, .string key] w fun e w' => e = .returned (.int .i64 (keyIx t.map key)) ∧ Below w.heap.size w w' := by
  cases h with
  | mk k b n s l m la lc ma mc cl cm hk hn hs hl hm rl rm ks il im =>
    have HI := Lib.hid (indexL_any (⟨hm, rm, ks, im⟩ : SliceP w0 R m ma mc cm) key)
    have hb1 := ((Below.refl w.heap.size w).alloc (Nat.le_refl _) (.cells #[.int .i64 k, .bool b, .int .i64 n, .string s, .slice la l.length lc, .slice ma m.length mc] 25)).alloc (by simp) (.cells #[.string key] 9)
    have HB := Lib.hid hb1
    have c5 : ((w.alloc (.cells #[.int .i64 k, .bool b, .int .i64 n, .string s, .slice la l.length lc, .slice ma m.length mc] 25)).alloc (.cells #[.string key] 9)).cell? ⟨w.heap.size, 5, none⟩ = some (.slice ma m.length mc) := by
      rw [World.cell?_alloc_lt _ _ _ (by simp), World.cell?_alloc_new]; rfl
    have k0 : ((w.alloc (.cells #[.int .i64 k, .bool b, .int .i64 n, .string s, .slice la l.length lc, .slice ma m.length mc] 25)).alloc (.cells #[.string key] 9)).cell? ⟨w.heap.size + 1, 0, none⟩ = some (.string key) := by
      have := World.cell?_alloc_new (w.alloc (.cells #[.int .i64 k, .bool b, .int .i64 n, .string s, .slice la l.length lc, .slice ma m.length mc] 25)) #[.string key] 9 0
      rw [World.size_alloc] at this
      exact this
    have HK := Lib.hid k0
    clear hb1 k0 hk hn hs hl hm rl rm ks il im
    go_enter Tryz.func119, Tryz.ntmps119
    go_wp2_with fail
    refine (HI.out (w.heap.size + 1) _ (bstep hw HB.out hw.size) HK.out).mono ?_
    rintro e w2 ⟨rfl, hb2⟩
    have hb3 := bstep HB.out hb2 HB.out.size
    go_wp2_with fail
    go_ret
    exact ⟨rfl, hb3⟩

theorem ret_kept {P : Program} {fn : Func} {R : Ending → World → Prop} {a : Act} {w : World} {p q : Tmp} {ty : TypeId} {d : TypeDesc} (g : Nat) (vs : Array Value) (h : fn.results = #[.cell p ty, .tmp q]) (hdef : a.defers = []) (hp : a.tmps.getD p undef = .pointer (some ⟨g, 0, none⟩))
    (hd : (match d with | .struct _ | .array _ _ => true | _ => false) = true) (hu : P.underlying ty = some d) (hi : (P.info? ty).map (·.size) = some vs.size) (hc : ∀ i (hi : i < vs.size), w.cell? ⟨g, i, none⟩ = some vs[i])
    (hR : R (.returned (.tuple #[.agg vs, a.tmps.getD q undef])) w) : bodyPost P fn R .ret a w := by
  have hp' : a.tmps[p]?.getD undef = .pointer (some ⟨g, 0, none⟩) := by simpa using hp
  refine bodyPost_ret (v := .tuple #[.agg vs, a.tmps.getD q undef]) ?_ hdef hR
  simp [results, h, hp', asAddr, run_loadVar_cells _ g ty vs d hd hu hc (by simpa using hi)]

abbrev zeroV : Array Value := #[.int .i64 0, .bool false, .int .i64 0, .string ⟨#[]⟩, .slice none 0 0, .slice none 0 0]

/-- What child and find hand back: a part of what lay there, or nothing. -/
def PartOf (w0 : World) (R : Nat → Prop) (w : World) (r : Option T) (e : Ending) (w' : World) : Prop := ∃ ds, e = .returned (.tuple #[.agg ds, .bool r.isSome]) ∧ Lies w0 R (r.getD T.nil) ds ∧ Below w.heap.size w w'

set_option maxRecDepth 100000 in
set_option maxHeartbeats 1600000 in
theorem child_any {w0 : World} {R : Nat → Prop} {t : T} {cs : Array Value} (h : Lies w0 R t cs) (key : ByteArray) (w : World) (hw : Below w0.heap.size w0 w) :
    Calls Tryz.prog 88 #[.agg cs, .string key] w (PartOf w0 R w (t.get key)) := by
  have HP := Lib.hid (place_any h key)
  cases h with
  | mk k b n s l m la lc ma mc cl cm hk hn hs hl hm rl rm ks il im =>
    have ll := hm.le
    have lx := hm.big
    have hb1 := ((Below.refl w.heap.size w).alloc (Nat.le_refl _) (.cells #[.int .i64 k, .bool b, .int .i64 n, .string s, .slice la l.length lc, .slice ma m.length mc] 25)).alloc (by simp) (.cells #[.int .i64 0, .bool false, .int .i64 0, .string ⟨#[]⟩, .slice none 0 0, .slice none 0 0] 25)
    have hx : ∀ j v, (#[.int .i64 k, .bool b, .int .i64 n, .string s, .slice la l.length lc, .slice ma m.length mc] : Array Value)[j]? = some v → ((w.alloc (.cells #[.int .i64 k, .bool b, .int .i64 n, .string s, .slice la l.length lc, .slice ma m.length mc] 25)).alloc (.cells #[.int .i64 0, .bool false, .int .i64 0, .string ⟨#[]⟩, .slice none 0 0, .slice none 0 0] 25)).cell? ⟨w.heap.size, j, none⟩ = some v := fun j v h => by
      rw [World.cell?_alloc_lt _ _ _ (by simp), World.cell?_alloc_new]; exact h
    have hy : ∀ j, ((w.alloc (.cells #[.int .i64 k, .bool b, .int .i64 n, .string s, .slice la l.length lc, .slice ma m.length mc] 25)).alloc (.cells #[.int .i64 0, .bool false, .int .i64 0, .string ⟨#[]⟩, .slice none 0 0, .slice none 0 0] 25)).cell? ⟨w.heap.size + 1, j, none⟩ = (#[.int .i64 0, .bool false, .int .i64 0, .string ⟨#[]⟩, .slice none 0 0, .slice none 0 0] : Array Value)[j]? := fun j => by
      have := World.cell?_alloc_new (w.alloc (.cells #[.int .i64 k, .bool b, .int .i64 n, .string s, .slice la l.length lc, .slice ma m.length mc] 25)) #[.int .i64 0, .bool false, .int .i64 0, .string ⟨#[]⟩, .slice none 0 0, .slice none 0 0] 25 j
      rw [World.size_alloc] at this
      exact this
    have hz : ∀ j, ((w.alloc (.cells #[.int .i64 k, .bool b, .int .i64 n, .string s, .slice la l.length lc, .slice ma m.length mc] 25)).alloc (.cells #[.int .i64 0, .bool false, .int .i64 0, .string ⟨#[]⟩, .slice none 0 0, .slice none 0 0] 25)).frozen? ⟨w.heap.size + 1, j, none⟩ = false := fun j => by
      have := World.frozen?_alloc_new (w.alloc (.cells #[.int .i64 k, .bool b, .int .i64 n, .string s, .slice la l.length lc, .slice ma m.length mc] 25)) #[.int .i64 0, .bool false, .int .i64 0, .string ⟨#[]⟩, .slice none 0 0, .slice none 0 0] 25 j
      rw [World.size_alloc] at this
      exact this
    have HY := Lib.hid hy
    have HX := Lib.hid hx
    have HZ := Lib.hid hz
    have HB := Lib.hid hb1
    have c0 := hx 0 _ rfl
    have c1 := hx 1 _ rfl
    have c2 := hx 2 _ rfl
    have c3 := hx 3 _ rfl
    have c4 := hx 4 _ rfl
    have c5 := hx 5 _ rfl
    have y0 := hy 0
    have y1 := hy 1
    have y2 := hy 2
    have y3 := hy 3
    have y4 := hy 4
    have y5 := hy 5
    simp at y0 y1 y2 y3 y4 y5
    clear hx hy hb1
    obtain ⟨dd, hu, hdd⟩ := Tryz.structV
    have DD := Lib.hid hdd
    have HU := Lib.hid hu
    clear hdd hu
    by_cases hk5 : k = 5
    case neg =>
      have hk5' : (k != 5) = true := by rw [bne_iff_ne]; exact hk5
      have HG : Hid ((T.mk k b n s l m).get key = none) := by show _ = _; rw [T.get_find, T.pairs, if_neg hk5]; rfl
      clear hk5
      go_enter Tryz.func88, Tryz.ntmps88
      go_wp2_with fail
      rw [HG.out]
      exact ret_kept (w.heap.size + 1) zeroV Tryz.results88 rfl rfl DD.out HU.out Tryz.sizeV (fun i hi => (HY.out i).trans (Array.getElem?_eq_getElem (show i < 6 from hi))) ⟨_, rfl, nil_lies _ _, HB.out⟩
    case pos =>
      subst hk5
      have HP2 : Hid (∀ w, Below w0.heap.size w0 w → Calls Tryz.prog 119 #[.agg #[.int .i64 5, .bool b, .int .i64 n, .string s, .slice la l.length lc, .slice ma m.length mc], .string key] w fun e w' => e = .returned (.int .i64 (keyIx m key)) ∧ Below w.heap.size w w') := fun w hw => HP.out w hw
      have e5 : (T.mk 5 b n s l m).pairs = m := by rw [T.pairs, if_pos rfl]
      have HGF := Lib.hid (T.get_find (T.mk 5 b n s l m) key)
      rw [e5] at HGF
      have HKM : Hid (∀ h : keyIx m key < 0, (T.mk 5 b n s l m).get key = none) := fun h => get_miss _ key (by rw [e5]; exact h)
      have HKH : Hid (∀ j : Nat, keyIx m key = j → ∃ h : j < m.length, (T.mk 5 b n s l m).get key = some (m[j]).2) := fun j hj => by
        obtain ⟨h, e⟩ := get_hit (T.mk 5 b n s l m) key j (by rw [e5]; exact hj)
        have h2 : j < m.length := by rw [← e5]; exact h
        refine ⟨h2, e.trans ?_⟩
        simp only [e5]
      have HRM := Lib.hid rm
      have HIM := Lib.hid im
      have HHM := Lib.hid hm
      clear e5 hk hn hl hm rl rm ks il im
      go_enter Tryz.func88, Tryz.ntmps88
      go_wp2_with fail
      refine (HP2.out _ (bstep hw HB.out hw.size)).mono ?_
      rintro e w2 ⟨rfl, hb2⟩
      have hb3 := bstep HB.out hb2 HB.out.size
      have hz2 : ∀ j, w2.cell? ⟨w.heap.size + 1, j, none⟩ = zeroV[j]? := fun j => (hb2.cell (p := ⟨w.heap.size + 1, j, none⟩) (by simp)).trans (HY.out j)
      have hf2 : ∀ j, w2.frozen? ⟨w.heap.size + 1, j, none⟩ = false := fun j => (hb2.frozen (p := ⟨w.heap.size + 1, j, none⟩) (by simp)).trans (HZ.out j)
      have hc5 : w2.cell? ⟨w.heap.size, 5, none⟩ = some (.slice ma m.length mc) := (hb2.cell (p := ⟨w.heap.size, 5, none⟩) (by simp; omega)).trans c5
      have y0 := hz2 0
      have y1 := hz2 1
      have y2 := hz2 2
      have y3 := hz2 3
      have y4 := hz2 4
      have y5 := hz2 5
      simp at y0 y1 y2 y3 y4 y5
      have HY2 := Lib.hid hz2
      have HF2 := Lib.hid hf2
      have HB3 := Lib.hid hb3
      have f0 := hf2 0
      have f1 := hf2 1
      have f2 := hf2 2
      have f3 := hf2 3
      have f4 := hf2 4
      have f5 := hf2 5
      clear hz2 hf2 hb2 c0 c1 c2 c3 c4 c5
      by_cases hneg : keyIx m key < 0
      · have HG := Lib.hid (HKM.out hneg)
        go_wp2_with fail
        rw [HG.out]
        refine ret_cells_tmp w2 (w.heap.size + 1) [.int .i64 0, .bool false, .int .i64 0, .string ⟨#[]⟩, .slice none 0 0, .slice none 0 0] rfl Tryz.results88 rfl rfl DD.out HU.out Tryz.sizeV (fun i hi => ⟨_, (HY2.out i).trans (Array.getElem?_eq_getElem (show i < 6 from hi))⟩) ?_
        exact ⟨_, rfl, nil_lies _ _, setRow_below _ (by omega) _ _ _ HB3.out⟩
      · obtain ⟨j, hj⟩ : ∃ j : Nat, keyIx m key = j := ⟨(keyIx m key).toNat, by omega⟩
        obtain ⟨hjl, hget⟩ := HKH.out j hj
        have HG := Lib.hid hget
        obtain ⟨bl, ol, d0, d1, d2, d3, d4, d4l, d4c, d5, d5l, d5c, rfl, hc, r0, r1, r2, r3, r4, r5, r6⟩ := openM (bstep hw HB3.out hw.size) HHM.out HRM.out hjl (HIM.out j hjl)
        have HL := Lib.hid (HIM.out j hjl)
        rw [hc] at HL
        rw [hj]
        clear hc hneg hj hget
        go_wp2_with fail
        rw [HG.out]
        refine ret_cells_tmp w2 (w.heap.size + 1) [.int .i64 d0, .bool d1, .int .i64 d2, .string d3, .slice d4 d4l d4c, .slice d5 d5l d5c] rfl Tryz.results88 rfl rfl DD.out HU.out Tryz.sizeV (fun i hi => ⟨_, (HY2.out i).trans (Array.getElem?_eq_getElem (show i < 6 from hi))⟩) ?_
        exact ⟨_, rfl, HL.out, setRow_below _ (by omega) _ _ _ HB3.out⟩

end Go.Proofs.YtlniokpekcoodaaGreatDoor

/-
  Package path's find.
-/
set_option linter.unusedVariables false
set_option linter.unusedSimpArgs false
namespace Go.Proofs.YtlniokpekcoodaaGreatDoor
open Go.RowKit

/-- A text of a slice, in a later world. -/
theorem SliceS.at {w0 w : World} {ks : List ByteArray} {a : Option Addr} {cap : Nat} (h : SliceS w0 ks a cap) (hw : Below w0.heap.size w0 w) {j : Nat} (hj : j < ks.length) : ∃ b off, a = some ⟨b, off, none⟩ ∧ w.cell? ⟨b, off + j, none⟩ = some (.string ks[j]) := by
  obtain ⟨b, off, e⟩ := h.ofSome (by omega)
  exact ⟨b, off, e, cells_frame hw (h.cell j hj b off e)⟩

/-- Six cells of a box. -/
def Box6 (w : World) (g : Nat) (cs : Array Value) : Prop := ∀ j, j < 6 → w.cell? ⟨g, j, none⟩ = cs[j]?
def Thaw (w : World) (g : Nat) : Prop := ∀ j, w.frozen? ⟨g, j, none⟩ = false
theorem Box6.later {w w' : World} {g : Nat} {cs : Array Value} {B : Nat} (h : Box6 w g cs) (hb : Below B w w') (hg : g < B) : Box6 w' g cs := fun j hj => (hb.cell (p := ⟨g, j, none⟩) hg).trans (h j hj)
theorem Thaw.later {w w' : World} {g : Nat} {B : Nat} (h : Thaw w g) (hb : Below B w w') (hg : g < B) : Thaw w' g := fun j => (hb.frozen (p := ⟨g, j, none⟩) hg).trans (h j)
theorem Box6.six {w : World} {g : Nat} {c0 c1 c2 c3 c4 c5 : Value} (h : Box6 w g #[c0, c1, c2, c3, c4, c5]) : w.cell? ⟨g, 0, none⟩ = some c0 ∧ w.cell? ⟨g, 1, none⟩ = some c1 ∧ w.cell? ⟨g, 2, none⟩ = some c2 ∧ w.cell? ⟨g, 3, none⟩ = some c3 ∧ w.cell? ⟨g, 4, none⟩ = some c4 ∧ w.cell? ⟨g, 5, none⟩ = some c5 :=
  ⟨h 0 (by omega), h 1 (by omega), h 2 (by omega), h 3 (by omega), h 4 (by omega), h 5 (by omega)⟩
theorem Thaw.six {w : World} {g : Nat} (h : Thaw w g) : w.frozen? ⟨g, 0, none⟩ = false ∧ w.frozen? ⟨g, 1, none⟩ = false ∧ w.frozen? ⟨g, 2, none⟩ = false ∧ w.frozen? ⟨g, 3, none⟩ = false ∧ w.frozen? ⟨g, 4, none⟩ = false ∧ w.frozen? ⟨g, 5, none⟩ = false :=
  ⟨h 0, h 1, h 2, h 3, h 4, h 5⟩
theorem Box6.new (w : World) (cs : Array Value) (t : TypeId) : Box6 (w.alloc (.cells cs t)) w.heap.size cs := fun j _ => by rw [World.cell?_alloc_new]
theorem Thaw.new (w : World) (cs : Array Value) (t : TypeId) : Thaw (w.alloc (.cells cs t)) w.heap.size := fun j => by rw [World.frozen?_alloc_new]
/-- .. stored anew. -/
theorem Box6.store {w : World} {g : Nat} {cs : Array Value} (h : Box6 w g cs) (hs : cs.size = 6) (v0 v1 v2 v3 v4 v5 : Value) : Box6 (setRow w g 0 [v0, v1, v2, v3, v4, v5]) g #[v0, v1, v2, v3, v4, v5] := fun j hj => by
  have := setRow_cell g [v0, v1, v2, v3, v4, v5] w 0 (fun i hi => ⟨cs[i]'(by rw [hs]; exact hi), by rw [Nat.zero_add, h i hi]; exact Array.getElem?_eq_getElem (by rw [hs]; exact hi)⟩) j hj
  rw [Nat.zero_add] at this
  rw [this]
  rcases (by omega : j = 0 ∨ j = 1 ∨ j = 2 ∨ j = 3 ∨ j = 4 ∨ j = 5) with rfl | rfl | rfl | rfl | rfl | rfl <;> rfl
theorem Thaw.store {w : World} {g g2 : Nat} (h : Thaw w g) (l : List Value) (o : Nat) : Thaw (setRow w g2 o l) g := fun j => by rw [setRow_frozen]; exact h j
theorem Box6.other {w : World} {g g2 : Nat} {cs : Array Value} (h : Box6 w g cs) (hg : g ≠ g2) (l : List Value) (o : Nat) : Box6 (setRow w g2 o l) g cs := fun j hj => by
  have e := h j hj
  unfold World.cell? at e ⊢
  rw [setRow_heap _ _ _ _ _ hg]
  exact e
end Go.Proofs.YtlniokpekcoodaaGreatDoor

/-
  How two values compare: package tree's Compare and the reference's.
-/
set_option linter.unusedVariables false
set_option linter.unusedSimpArgs false
namespace Go.Proofs.YtlniokpekcoodaaGreatDoor
open Go.RowKit

def cmpI (a b : Int) : Int := if a < b then -1 else if b < a then 1 else 0
def cmpB (a b : Bool) : Int := if a = b then 0 else if b then -1 else 1

def cmpS (a b : ByteArray) : Int := Lib.compareBytes a.data.toList b.data.toList

set_option maxRecDepth 100000 in
theorem compareString_any (a b : ByteArray) (w : World) : Calls Tryz.prog 71 #[.string a, .string b] w fun e w' => e = .returned (.int .i64 (cmpS a b)) ∧ w = w' := by
  go_enter Tryz.func71, Tryz.ntmps71
  go_wp2
  rw [run_callFunc_extern Tryz.func99 (by kernel_rfl) (by kernel_rfl) (by kernel_rfl) (e := Extern.BytealgCompare.compare) (by kernel_rfl), Lib.run_compareString]
  simp only [Result.andThen]
  rw [Oper.upon_value]
  go_wp2
  go_ret
  exact ⟨rfl, rfl⟩

theorem cmpStr_any (a b : ByteArray) (w : World) : Calls Tryz.prog 47 #[.string a, .string b] w fun e w' => e = .returned (.int .i64 (cmpS a b)) ∧ w = w' := by
  go_enter Tryz.func47, Tryz.ntmps47
  go_wp2_with fail
  refine (compareString_any a b _).mono ?_
  rintro e w1 ⟨rfl, rfl⟩
  go_wp2_with fail
  go_ret
  exact ⟨rfl, rfl⟩

mutual
/-- How two values compare. -/
def T.cmp : T → T → Int
  | .mk k1 b1 n1 s1 l1 m1, .mk k2 b2 n2 s2 l2 m2 =>
    if k1 ≠ k2 then cmpI k1 k2 else if k1 = 1 then cmpB b1 b2 else if k1 = 2 then cmpI n1 n2 else if k1 = 3 then cmpS s1 s2 else if k1 = 4 then cmpL l1 l2 else if k1 = 5 then cmpM m1 m2 else 0
def cmpL : List T → List T → Int
  | [], [] => 0
  | [], _ :: _ => -1
  | _ :: _, [] => 1
  | x :: r, y :: q => if T.cmp x y ≠ 0 then T.cmp x y else cmpL r q
def cmpM : List (ByteArray × T) → List (ByteArray × T) → Int
  | [], [] => 0
  | [], _ :: _ => -1
  | _ :: _, [] => 1
  | (k1, x) :: r, (k2, y) :: q => if k1 ≠ k2 then (if cmpS k1 k2 ≠ 0 then cmpS k1 k2 else cmpM r q) else if T.cmp x y ≠ 0 then T.cmp x y else cmpM r q
end

/-- How two pairs compare. -/
def cmpP (p q : ByteArray × T) : Int := if p.1 ≠ q.1 then cmpS p.1 q.1 else T.cmp p.2 q.2

/-- Two lists, place by place; the shorter first. -/
def cmpG {α : Type} (f : α → α → Int) : List α → List α → Int
  | [], [] => 0
  | [], _ :: _ => -1
  | _ :: _, [] => 1
  | x :: r, y :: q => if f x y ≠ 0 then f x y else cmpG f r q
section
variable {α : Type} (f : α → α → Int)
end

end Go.Proofs.YtlniokpekcoodaaGreatDoor
