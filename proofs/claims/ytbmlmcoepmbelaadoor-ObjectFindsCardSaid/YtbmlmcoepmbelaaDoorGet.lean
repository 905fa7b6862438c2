/-
  What a map has under a key.
-/
import Derived.Test.YtbmlmcoepmbelaaDoorCloneP
set_option linter.unusedVariables false
set_option linter.unusedSimpArgs false
namespace Go.Proofs.YtbmlmcoepmbelaaDoor
open Go.RowKit

set_option maxHeartbeats 400000 in
/-- The closure in Get: is the key that one? -/
theorem get1_any (p : ByteArray × T) (k : Int) (b : Bool) (n : Int) (s : ByteArray) (la : Option Addr) (ll lc : Nat) (ma : Option Addr) (ml mc : Nat) (key : ByteArray) (kb : Nat) (w : World) (hk : w.cell? ⟨kb, 0, none⟩ = some (.string key)) :
    Calls Tryd.prog 57 #[.agg #[.string p.1, .int .i64 k, .bool b, .int .i64 n, .string s, .slice la ll lc, .slice ma ml mc], .pointer (some ⟨kb, 0, none⟩)] w fun e w' => e = .returned (.bool (decide (p.1 = key))) ∧ Below w.heap.size w w' := by
  have hlt := World.block_lt_of_cell? _ _ hk
  have hne : kb ≠ w.heap.size := by simp at hlt; omega
  have HB := Lib.hid ((Below.refl w.heap.size w).alloc (Nat.le_refl _) (.cells #[.string p.1, .int .i64 k, .bool b, .int .i64 n, .string s, .slice la ll lc, .slice ma ml mc] 54))
  have hk2 : (w.alloc (.cells #[.string p.1, .int .i64 k, .bool b, .int .i64 n, .string s, .slice la ll lc, .slice ma ml mc] 54)).cell? ⟨kb, 0, none⟩ = some (.string key) := by rw [World.cell?_alloc_lt _ _ _ hlt]; exact hk
  by_cases h : p.1 = key
  · have HR := Lib.hid (decide_eq_true h)
    have e1 : (p.1.toList == key.toList) = true := by rw [h]; simp
    clear h
    go_enter Tryd.func57, Tryd.ntmps57
    go_wp2_with fail
    go_ret
    exact ⟨ret_bool (by rw [HR.out]), HB.out⟩
  · have HR := Lib.hid (decide_eq_false h)
    have e1 := str_ne h
    clear h
    go_enter Tryd.func57, Tryd.ntmps57
    go_wp2_with fail
    go_ret
    exact ⟨ret_bool (by rw [HR.out]), HB.out⟩

/-- The place of the first of that key; -1: there is none. -/
def keyIx (ps : List (ByteArray × T)) (key : ByteArray) : Int := match ps.findIdx? fun p => decide (p.1 = key) with | some i => (i : Int) | none => -1
theorem keyIx_none (ps : List (ByteArray × T)) (key : ByteArray) (h : ∀ i (hi : i < ps.length), ps[i].1 ≠ key) : keyIx ps key = -1 := by
  unfold keyIx
  rw [List.findIdx?_eq_none_iff.2 fun p hp => by obtain ⟨i, hi, rfl⟩ := List.getElem_of_mem hp; simpa using h i hi]
theorem keyIx_hit (ps : List (ByteArray × T)) (key : ByteArray) (j : Nat) (hj : j < ps.length) (h : ∀ i (hi : i < ps.length), i < j → ps[i].1 ≠ key) (he : ps[j].1 = key) : keyIx ps key = j := by
  unfold keyIx
  have : (ps.findIdx? fun p => decide (p.1 = key)) = some j := by
    rw [List.findIdx?_eq_some_iff_getElem]
    exact ⟨hj, by simp [he], fun i hi => by simpa using h i (by omega) hi⟩
  rw [this]

set_option maxHeartbeats 400000 in
theorem indexP_any {w0 : World} {R : Nat → Prop} {ps : List (ByteArray × T)} {a : Option Addr} {cap : Nat} {cm : Nat → Array Value} (h : SliceP w0 R ps a cap cm) (key : ByteArray) (kb : Nat) (w : World) (hw : Below w0.heap.size w0 w) (hk : w.cell? ⟨kb, 0, none⟩ = some (.string key)) :
    Calls Tryd.prog 56 #[.slice a ps.length cap, .func (Fn.func 57) #[] #[.pointer (some ⟨kb, 0, none⟩)]] w fun e w' => e = .returned (.int .i64 (keyIx ps key)) ∧ Below w.heap.size w w' := by
  have hl := h.hdr
  have ll := hl.le
  have lx := hl.big
  have KN := Lib.hid (keyIx_none ps key)
  have KH := Lib.hid (keyIx_hit ps key)
  go_enter Tryd.func56, Tryd.ntmps56
  go_wp2_with fail
  go_loopw [8] (fun vi wr => ∃ j : Nat, j ≤ ps.length ∧ vi = .int .i64 j ∧ Hid (∀ i (hi : i < ps.length), i < j → ps[i].1 ≠ key) ∧ Below w.heap.size w wr) (fun vi _ => ps.length - (intOf vi).toNat)
  case atStart => exact ⟨0, by omega, rfl, fun i _ hi => absurd hi (Nat.not_lt_zero _), Below.refl _ _⟩
  case round =>
    obtain ⟨j, hj, rfl, h0, hbw⟩ := hrel
    have hbw2 := bstep hw hbw hw.size
    have hk2 := cells_frame hbw hk
    by_cases hjl : j < ps.length
    · have KJ := Lib.hid (KH.out j hjl h0.out)
      obtain ⟨bl, ol, c0, c1, c2, c3, c4, c4l, c4c, c5, c5l, c5c, rfl, hc, r0, r1, r2, r3, r4, r5, r6⟩ := openM hbw2 hl h.rows hjl (h.each j hjl)
      clear hc
      go_wp2_with fail
      refine (get1_any ps[j] c0 c1 c2 c3 c4 c4l c4c c5 c5l c5c key kb _ hk2).mono ?_
      rintro e w1 ⟨rfl, hb1⟩
      have hb2 := bstep hbw hb1 hbw.size
      by_cases he : ps[j].1 = key
      · have HR := Lib.hid (KJ.out he)
        rw [decide_eq_true he]
        clear he
        go_wp2_with fail
        go_ret
        exact ⟨ret_int HR.out.symm, hb2⟩
      · have HR := Lib.hid he
        rw [decide_eq_false he]
        clear he
        go_wp2_with fail
        go_roundw
        case rel => exact ⟨j + 1, by omega, by go_num, fun i hi hij => by
          by_cases e : i = j
          · subst e; exact HR.out
          · exact h0.out i hi (by omega), hb2⟩
        case measure => simp [intOf]; omega
    · obtain rfl : j = ps.length := by omega
      have HR := Lib.hid (KN.out fun i hi => h0.out i hi hi)
      go_wp2_with fail
      go_ret
      exact ⟨ret_int HR.out.symm, hbw⟩

/-- Nothing. -/
def T.nil : T := .mk 0 false 0 ⟨#[]⟩ [] []
theorem nil_lies (w : World) (R : Nat → Prop) : Lies w R T.nil #[.int .i64 0, .bool false, .int .i64 0, .string ⟨#[]⟩, .slice none 0 0, .slice none 0 0] :=
  .mk 0 false 0 ⟨#[]⟩ [] [] none 0 none 0 (fun _ => #[]) (fun _ => #[]) (by decide) (by decide) (by decide) ⟨by simp, by simp, fun _ => rfl, fun h => absurd h (by simp), by simp⟩ ⟨by simp, by simp, fun _ => rfl, fun h => absurd h (by simp), by simp⟩
    (fun i h => absurd h (by simp)) (fun i h => absurd h (by simp)) (fun i h => absurd h (by simp)) (fun i h => absurd h (by simp)) (fun i h => absurd h (by simp))

/-- A map's pairs; of others none. -/
def T.pairs : T → List (ByteArray × T)
  | .mk k _ _ _ _ m => if k = 5 then m else []
/-- What a map has under a key. -/
def T.get (t : T) (key : ByteArray) : Option T := (t.pairs.find? fun p => decide (p.1 = key)).map (·.2)

def Got (w : World) (r : Option T) (e : Ending) (w' : World) : Prop := ∃ ds, e = .returned (.tuple #[.agg ds, .bool r.isSome]) ∧ Lies w' (fun b => w.heap.size ≤ b) (r.getD T.nil) ds ∧ Below w.heap.size w w'

def IsPairs (w : World) (t : T) (mc : Nat) (ma : Option Addr) (ml : Nat) (k : Int) (e : Ending) (w' : World) : Prop := e = .returned (if k = 5 then .slice ma ml mc else .slice none 0 0) ∧ Below w.heap.size w w'

theorem pairs_any (k : Int) (b : Bool) (n : Int) (s : ByteArray) (la : Option Addr) (ll lc : Nat) (ma : Option Addr) (ml mc : Nat) (w : World) :
    Calls Tryd.prog 55 #[.agg #[.int .i64 k, .bool b, .int .i64 n, .string s, .slice la ll lc, .slice ma ml mc]] w fun e w' => e = .returned (if k = 5 then .slice ma ml mc else .slice none 0 0) ∧ Below w.heap.size w w' := by
  have HB := Lib.hid ((Below.refl w.heap.size w).alloc (Nat.le_refl _) (.cells #[.int .i64 k, .bool b, .int .i64 n, .string s, .slice la ll lc, .slice ma ml mc] 25))
  by_cases h : k = 5
  · rw [if_pos h]
    subst h
    go_enter Tryd.func55, Tryd.ntmps55
    go_wp2_with fail
    go_ret
    exact ⟨rfl, HB.out⟩
  · rw [if_neg h]
    have hne : (k != 5) = true := by simp [h]
    clear h
    go_enter Tryd.func55, Tryd.ntmps55
    go_wp2_with fail
    go_ret
    exact ⟨rfl, HB.out⟩

theorem three_boxes {w w1 : World} {c1 c2 c3 : Array Value} {t1 t2 t3 : TypeId} {B : Nat} (h : Below B (((w.alloc (.cells c1 t1)).alloc (.cells c2 t2)).alloc (.cells c3 t3)) w1) (hB : w.heap.size + 2 < B) :
    (∀ j, w1.cell? ⟨w.heap.size, j, none⟩ = c1[j]?) ∧ (∀ j, w1.cell? ⟨w.heap.size + 1, j, none⟩ = c2[j]?) ∧ (∀ j, w1.cell? ⟨w.heap.size + 2, j, none⟩ = c3[j]?) ∧ (∀ j, w1.frozen? ⟨w.heap.size + 2, j, none⟩ = false) := by
  have e1 : w.heap.size + 1 = (w.alloc (.cells c1 t1)).heap.size := by simp
  have e2 : w.heap.size + 2 = ((w.alloc (.cells c1 t1)).alloc (.cells c2 t2)).heap.size := by simp
  refine ⟨fun j => ?_, fun j => ?_, fun j => ?_, fun j => ?_⟩
  · rw [h.cell (p := ⟨w.heap.size, j, none⟩) (by simp only; omega), World.cell?_alloc_lt _ _ _ (by simp; omega), World.cell?_alloc_lt _ _ _ (by simp), World.cell?_alloc_new]
  · rw [h.cell (p := ⟨w.heap.size + 1, j, none⟩) (by simp only; omega), World.cell?_alloc_lt _ _ _ (by simp), e1, World.cell?_alloc_new]
  · rw [h.cell (p := ⟨w.heap.size + 2, j, none⟩) (by simp only; omega), e2, World.cell?_alloc_new]
  · rw [h.frozen (p := ⟨w.heap.size + 2, j, none⟩) (by simp only; omega), e2, World.frozen?_alloc_new]

theorem get_hit (t : T) (key : ByteArray) (j : Nat) (hj : keyIx t.pairs key = j) : ∃ h : j < t.pairs.length, t.get key = some (t.pairs[j]).2 := by
  unfold keyIx at hj
  unfold T.get
  cases hx : t.pairs.findIdx? fun p => decide (p.1 = key) with
  | none => rw [hx] at hj; simp only at hj; omega
  | some i =>
    rw [hx] at hj
    simp only at hj
    obtain rfl : i = j := by omega
    obtain ⟨h1, h2, h3⟩ := List.findIdx?_eq_some_iff_getElem.1 hx
    refine ⟨h1, ?_⟩
    have : (t.pairs.find? fun p => decide (p.1 = key)) = some t.pairs[i] := by
      rw [List.find?_eq_some_iff_getElem]
      exact ⟨h2, i, h1, rfl, fun k hk => by simpa using h3 k hk⟩
    rw [this]
    rfl
theorem get_miss (t : T) (key : ByteArray) (h : keyIx t.pairs key < 0) : t.get key = none := by
  unfold keyIx at h
  unfold T.get
  cases hx : t.pairs.findIdx? fun p => decide (p.1 = key) with
  | none =>
    rw [List.find?_eq_none.2 fun p hp => by simpa using List.findIdx?_eq_none_iff.1 hx p hp]
    rfl
  | some i => rw [hx] at h; simp at h; omega

theorem node_pairs {w0 : World} {R : Nat → Prop} {t : T} {cs : Array Value} (h : Lies w0 R t cs) : ∃ a cap cm, SliceP w0 R t.pairs a cap cm ∧ ∀ w, Calls Tryd.prog 55 #[.agg cs] w fun e w' => e = .returned (.slice a t.pairs.length cap) ∧ Below w.heap.size w w' := by
  cases h with
  | mk k b n s l m la lc ma mc cl cm hk hn hs hl hm rl rm ks il im =>
    by_cases h5 : k = 5
    · have e : (T.mk k b n s l m).pairs = m := by rw [T.pairs, if_pos h5]
      rw [e]
      refine ⟨ma, mc, cm, ⟨hm, rm, ks, im⟩, fun w => ?_⟩
      have := pairs_any k b n s la l.length lc ma m.length mc w
      rw [if_pos h5] at this
      exact this
    · have e : (T.mk k b n s l m).pairs = [] := by rw [T.pairs, if_neg h5]
      rw [e]
      refine ⟨none, 0, cm, ⟨⟨by simp, by simp, fun _ => rfl, fun h => absurd h (by simp), by simp⟩, fun i h => absurd h (by simp), fun i h => absurd h (by simp), fun i h => absurd h (by simp)⟩, fun w => ?_⟩
      have := pairs_any k b n s la l.length lc ma m.length mc w
      rw [if_neg h5] at this
      exact this

set_option maxHeartbeats 1600000 in
theorem tGet_any {w0 : World} {R : Nat → Prop} {t : T} {cs : Array Value} (h : Lies w0 R t cs) (key : ByteArray) (w : World) (hw : Below w0.heap.size w0 w) :
    Calls Tryd.prog 30 #[.agg cs, .string key] w (Got w (t.get key)) := by
  obtain ⟨a, cap, cm, hP, hcall⟩ := node_pairs h
  have HC := Lib.hid hcall
  have HI := Lib.hid (indexP_any hP key)
  obtain ⟨k, b, n, s, la, ll, lc, ma, ml, mc, rfl⟩ := h.six
  clear hcall
  go_enter Tryd.func30, Tryd.ntmps30
  go_wp2_with fail
  refine (HC.out _).mono ?_
  rintro e w1 ⟨rfl, hb1⟩
  obtain ⟨q0, q1, q2, q3⟩ := three_boxes hb1 (by simp)
  have hA := bstep ((((Below.refl w.heap.size w).alloc (Nat.le_refl _) _).alloc (by simp) _).alloc (by simp; omega) _) hb1 (by simp; omega)
  have hs1 : w.heap.size + 3 ≤ w1.heap.size := by have := hb1.size; simp at this; omega
  have k1 := q1 0
  simp at k1
  have Q2 := Lib.hid q2
  have Q3 := Lib.hid q3
  clear q0 q1 q2 q3 hb1
  go_wp2_with fail
  refine (HI.out (w.heap.size + 1) _ (bstep hw hA hw.size) k1).mono ?_
  rintro e w2 ⟨rfl, hb2⟩
  have hA2 := bstep hA hb2 hA.size
  have hs2 := hb2.size
  have z2 : ∀ j, w2.cell? ⟨w.heap.size + 2, j, none⟩ = (#[.int .i64 0, .bool false, .int .i64 0, .string ⟨#[]⟩, .slice none 0 0, .slice none 0 0] : Array Value)[j]? := fun j => (hb2.cell (p := ⟨w.heap.size + 2, j, none⟩) (by simp only; omega)).trans (Q2.out j)
  have f2 : ∀ j, w2.frozen? ⟨w.heap.size + 2, j, none⟩ = false := fun j => (hb2.frozen (p := ⟨w.heap.size + 2, j, none⟩) (by simp only; omega)).trans (Q3.out j)
  by_cases hneg : keyIx t.pairs key < 0
  · have HM := Lib.hid (get_miss t key hneg)
    go_wp2_with fail
    rw [HM.out]
    obtain ⟨dd, hu, hdd⟩ := Tryd.structV
    refine ret_cells_tmp w2 (w.heap.size + 2) [.int .i64 0, .bool false, .int .i64 0, .string ⟨#[]⟩, .slice none 0 0, .slice none 0 0] rfl Tryd.results30 rfl rfl hdd hu Tryd.sizeV (fun i hi => ⟨_, (z2 i).trans (Array.getElem?_eq_getElem (show i < 6 from hi))⟩) ?_
    exact ⟨_, rfl, nil_lies _ _, setRow_below _ (by omega) _ _ _ hA2⟩
  · obtain ⟨j, hj⟩ : ∃ j : Nat, keyIx t.pairs key = j := ⟨(keyIx t.pairs key).toNat, by omega⟩
    obtain ⟨hjl, hget⟩ := get_hit t key j hj
    have HG := Lib.hid hget
    rw [hj]
    have CC := Lib.hid (tClone_any (hP.each j hjl))
    have hl := hP.hdr
    have ll := hl.le
    have lx := hl.big
    obtain ⟨bl, ol, c0, c1, c2, c3, c4, c4l, c4c, c5, c5l, c5c, rfl, hc, r0, r1, r2, r3, r4, r5, r6⟩ := openM (bstep hw hA2 hw.size) hl hP.rows hjl (hP.each j hjl)
    rw [hc] at CC
    clear hc hneg hj hget
    go_wp2_with fail
    refine (CC.out _ (bstep hw hA2 hw.size)).mono ?_
    rintro e w3 ⟨ds, rfl, hL, hb3⟩
    obtain ⟨d0, d1, d2, d3, d4, d4l, d4c, d5, d5l, d5c, rfl⟩ := hL.six
    have hA3 := bstep hA2 hb3 hA2.size
    have z3 : ∀ j, w3.cell? ⟨w.heap.size + 2, j, none⟩ = (#[.int .i64 0, .bool false, .int .i64 0, .string ⟨#[]⟩, .slice none 0 0, .slice none 0 0] : Array Value)[j]? := fun j => (hb3.cell (p := ⟨w.heap.size + 2, j, none⟩) (by simp only; omega)).trans (z2 j)
    have f3 : ∀ j, w3.frozen? ⟨w.heap.size + 2, j, none⟩ = false := fun j => (hb3.frozen (p := ⟨w.heap.size + 2, j, none⟩) (by simp only; omega)).trans (f2 j)
    go_wp2_with fail
    rw [HG.out]
    obtain ⟨dd, hu, hdd⟩ := Tryd.structV
    refine ret_cells_tmp w3 (w.heap.size + 2) [.int .i64 d0, .bool d1, .int .i64 d2, .string d3, .slice d4 d4l d4c, .slice d5 d5l d5c] rfl Tryd.results30 rfl rfl hdd hu Tryd.sizeV (fun i hi => ⟨_, (z3 i).trans (Array.getElem?_eq_getElem (show i < 6 from hi))⟩) ?_
    have hL' : Lies w3 (fun b => w2.heap.size ≤ b) ((some (t.pairs[j]).2).getD T.nil) #[.int .i64 d0, .bool d1, .int .i64 d2, .string d3, .slice d4 d4l d4c, .slice d5 d5l d5c] := hL
    refine ⟨_, rfl, (hL'.keep (fun x hx => ?_)).weaken (fun x hx => ?_), ?_⟩
    · exact setRow_heap _ _ _ _ _ (by omega)
    · omega
    · exact setRow_below _ (by omega) _ _ _ hA3
end Go.Proofs.YtbmlmcoepmbelaaDoor
