/-
  What a map has under a key.
-/
import Derived.Test.YtnfmmgbghbaecaaCloneP
import Derived.Test.YtnfmmgbghbaecaaSort
set_option linter.unusedVariables false
set_option linter.unusedSimpArgs false
namespace Go.Proofs.Ytnfmmgbghbaecaa
open Go.RowKit

set_option maxHeartbeats 400000 in
/-- The closure in Get: is the key that one? -/
theorem get1_any (p : ByteArray × T) (k : Int) (b : Bool) (n : Int) (s : ByteArray) (la : Option Addr) (ll lc : Nat) (ma : Option Addr) (ml mc : Nat) (key : ByteArray) (kb : Nat) (w : World) (hk : w.cell? ⟨kb, 0, none⟩ = some (.string key)) :
    Calls Try.prog 81 #[.agg #[.string p.1, .int .i64 k, .bool b, .int .i64 n, .string s, .slice la ll lc, .slice ma ml mc], .pointer (some ⟨kb, 0, none⟩)] w fun e w' => e = .returned (.bool (decide (p.1 = key))) ∧ Below w.heap.size w w' := by
  have hlt := World.block_lt_of_cell? _ _ hk
  have hne : kb ≠ w.heap.size := by simp at hlt; omega
  have HB := Lib.hid ((Below.refl w.heap.size w).alloc (Nat.le_refl _) (.cells #[.string p.1, .int .i64 k, .bool b, .int .i64 n, .string s, .slice la ll lc, .slice ma ml mc] 35))
  have hk2 : (w.alloc (.cells #[.string p.1, .int .i64 k, .bool b, .int .i64 n, .string s, .slice la ll lc, .slice ma ml mc] 35)).cell? ⟨kb, 0, none⟩ = some (.string key) := by rw [World.cell?_alloc_lt _ _ _ hlt]; exact hk
  by_cases h : p.1 = key
  · have HR := Lib.hid (decide_eq_true h)
    have e1 : (p.1.toList == key.toList) = true := by rw [h]; simp
    clear h
    go_enter Try.func81, Try.ntmps81
    go_wp2_with fail
    go_ret
    exact ⟨ret_bool (by rw [HR.out]), HB.out⟩
  · have HR := Lib.hid (decide_eq_false h)
    have e1 := str_ne h
    clear h
    go_enter Try.func81, Try.ntmps81
    go_wp2_with fail
    go_ret
    exact ⟨ret_bool (by rw [HR.out]), HB.out⟩

/-- The place of the first of that key; -1: there is none. -/
def keyIx (ps : List (ByteArray × T)) (key : ByteArray) : Int := match ps.findIdx? fun p => decide (p.1 = key) with | some i => (i : Int) | none => -1
theorem keyIx_none (ps : List (ByteArray × T)) (key : ByteArray) (h : ∀ i (hi : i < ps.length), ps[i].1 ≠ key) : keyIx ps key = -1 := by
  unfold keyIx
  rw [List.findIdx?_eq_none_iff.2 fun p hp => by obtain ⟨i, hi, rfl⟩ := List.getElem_of_mem hp; simpa using h i hi]
theorem keyIx_hit (ps : List (ByteArray × T)) (key : ByteArray) (j : Nat) (hj : j < ps.length) (h : ∀ i (hi : i < ps.length), i < j → ps[i].1 ≠ key) (he : ps[j].1 = key) : keyIx ps key = j := by
  unfold keyIx
  have : (ps.findIdx? fun p => decide (p.1 = key)) = some j := by
    rw [List.findIdx?_eq_some_iff_getElem]
    exact ⟨hj, by simp [he], fun i hi => by simpa using h i (by omega) hi⟩
  rw [this]

set_option maxHeartbeats 400000 in
theorem indexP_any {w0 : World} {R : Nat → Prop} {ps : List (ByteArray × T)} {a : Option Addr} {cap : Nat} {cm : Nat → Array Value} (h : SliceP w0 R ps a cap cm) (key : ByteArray) (kb : Nat) (w : World) (hw : Below w0.heap.size w0 w) (hk : w.cell? ⟨kb, 0, none⟩ = some (.string key)) :
    Calls Try.prog 80 #[.slice a ps.length cap, .func (Fn.func 81) #[] #[.pointer (some ⟨kb, 0, none⟩)]] w fun e w' => e = .returned (.int .i64 (keyIx ps key)) ∧ Below w.heap.size w w' := by
  have hl := h.hdr
  have ll := hl.le
  have lx := hl.big
  have KN := Lib.hid (keyIx_none ps key)
  have KH := Lib.hid (keyIx_hit ps key)
  go_enter Try.func80, Try.ntmps80
  go_wp2_with fail
  go_loopw [8] (fun vi wr => ∃ j : Nat, j ≤ ps.length ∧ vi = .int .i64 j ∧ Hid (∀ i (hi : i < ps.length), i < j → ps[i].1 ≠ key) ∧ Below w.heap.size w wr) (fun vi _ => ps.length - (intOf vi).toNat)
  case atStart => exact ⟨0, by omega, rfl, fun i _ hi => absurd hi (Nat.not_lt_zero _), Below.refl _ _⟩
  case round =>
    obtain ⟨j, hj, rfl, h0, hbw⟩ := hrel
    have hbw2 := bstep hw hbw hw.size
    have hk2 := cells_frame hbw hk
    by_cases hjl : j < ps.length
    · have KJ := Lib.hid (KH.out j hjl h0.out)
      obtain ⟨bl, ol, c0, c1, c2, c3, c4, c4l, c4c, c5, c5l, c5c, rfl, hc, r0, r1, r2, r3, r4, r5, r6⟩ := openM hbw2 hl h.rows hjl (h.each j hjl)
      clear hc
      go_wp2_with fail
      refine (get1_any ps[j] c0 c1 c2 c3 c4 c4l c4c c5 c5l c5c key kb _ hk2).mono ?_
      rintro e w1 ⟨rfl, hb1⟩
      have hb2 := bstep hbw hb1 hbw.size
      by_cases he : ps[j].1 = key
      · have HR := Lib.hid (KJ.out he)
        rw [decide_eq_true he]
        clear he
        go_wp2_with fail
        go_ret
        exact ⟨ret_int HR.out.symm, hb2⟩
      · have HR := Lib.hid he
        rw [decide_eq_false he]
        clear he
        go_wp2_with fail
        go_roundw
        case rel => exact ⟨j + 1, by omega, by go_num, fun i hi hij => by
          by_cases e : i = j
          · subst e; exact HR.out
          · exact h0.out i hi (by omega), hb2⟩
        case measure => simp [intOf]; omega
    · obtain rfl : j = ps.length := by omega
      have HR := Lib.hid (KN.out fun i hi => h0.out i hi hi)
      go_wp2_with fail
      go_ret
      exact ⟨ret_int HR.out.symm, hbw⟩

/-- Nothing. -/
def T.nil : T := .mk 0 false 0 ⟨#[]⟩ [] []
theorem nil_lies (w : World) (R : Nat → Prop) : Lies w R T.nil #[.int .i64 0, .bool false, .int .i64 0, .string ⟨#[]⟩, .slice none 0 0, .slice none 0 0] :=
  .mk 0 false 0 ⟨#[]⟩ [] [] none 0 none 0 (fun _ => #[]) (fun _ => #[]) (by decide) (by decide) (by decide) ⟨by simp, by simp, fun _ => rfl, fun h => absurd h (by simp), by simp⟩ ⟨by simp, by simp, fun _ => rfl, fun h => absurd h (by simp), by simp⟩
    (fun i h => absurd h (by simp)) (fun i h => absurd h (by simp)) (fun i h => absurd h (by simp)) (fun i h => absurd h (by simp)) (fun i h => absurd h (by simp))

/-- A map's pairs; of others none. -/
def T.pairs : T → List (ByteArray × T)
  | .mk k _ _ _ _ m => if k = 5 then m else []
/-- What a map has under a key. -/
def T.get (t : T) (key : ByteArray) : Option T := (t.pairs.find? fun p => decide (p.1 = key)).map (·.2)

def Got (w : World) (r : Option T) (e : Ending) (w' : World) : Prop := ∃ ds, e = .returned (.tuple #[.agg ds, .bool r.isSome]) ∧ Lies w' (fun b => w.heap.size ≤ b) (r.getD T.nil) ds ∧ Below w.heap.size w w'

def IsPairs (w : World) (t : T) (mc : Nat) (ma : Option Addr) (ml : Nat) (k : Int) (e : Ending) (w' : World) : Prop := e = .returned (if k = 5 then .slice ma ml mc else .slice none 0 0) ∧ Below w.heap.size w w'

theorem pairs_any (k : Int) (b : Bool) (n : Int) (s : ByteArray) (la : Option Addr) (ll lc : Nat) (ma : Option Addr) (ml mc : Nat) (w : World) :
    Calls Try.prog 79 #[.agg #[.int .i64 k, .bool b, .int .i64 n, .string s, .slice la ll lc, .slice ma ml mc]] w fun e w' => e = .returned (if k = 5 then .slice ma ml mc else .slice none 0 0) ∧ Below w.heap.size w w' := by
  have HB := Lib.hid ((Below.refl w.heap.size w).alloc (Nat.le_refl _) (.cells #[.int .i64 k, .bool b, .int .i64 n, .string s, .slice la ll lc, .slice ma ml mc] 25))
  by_cases h : k = 5
  · rw [if_pos h]
    subst h
    go_enter Try.func79, Try.ntmps79
    go_wp2_with fail
    go_ret
    exact ⟨rfl, HB.out⟩
  · rw [if_neg h]
    have hne : (k != 5) = true := by simp [h]
    clear h
    go_enter Try.func79, Try.ntmps79
    go_wp2_with fail
    go_ret
    exact ⟨rfl, HB.out⟩

theorem three_boxes {w w1 : World} {c1 c2 c3 : Array Value} {t1 t2 t3 : TypeId} {B : Nat} (h : Below B (((w.alloc (.cells c1 t1)).alloc (.cells c2 t2)).alloc (.cells c3 t3)) w1) (hB : w.heap.size + 2 < B) :
    (∀ j, w1.cell? ⟨w.heap.size, j, none⟩ = c1[j]?) ∧ (∀ j, w1.cell? ⟨w.heap.size + 1, j, none⟩ = c2[j]?) ∧ (∀ j, w1.cell? ⟨w.heap.size + 2, j, none⟩ = c3[j]?) ∧ (∀ j, w1.frozen? ⟨w.heap.size + 2, j, none⟩ = false) := by
  have e1 : w.heap.size + 1 = (w.alloc (.cells c1 t1)).heap.size := by simp
  have e2 : w.heap.size + 2 = ((w.alloc (.cells c1 t1)).alloc (.cells c2 t2)).heap.size := by simp
  refine ⟨fun j => ?_, fun j => ?_, fun j => ?_, fun j => ?_⟩
  · rw [h.cell (p := ⟨w.heap.size, j, none⟩) (by simp only; omega), World.cell?_alloc_lt _ _ _ (by simp; omega), World.cell?_alloc_lt _ _ _ (by simp), World.cell?_alloc_new]
  · rw [h.cell (p := ⟨w.heap.size + 1, j, none⟩) (by simp only; omega), World.cell?_alloc_lt _ _ _ (by simp), e1, World.cell?_alloc_new]
  · rw [h.cell (p := ⟨w.heap.size + 2, j, none⟩) (by simp only; omega), e2, World.cell?_alloc_new]
  · rw [h.frozen (p := ⟨w.heap.size + 2, j, none⟩) (by simp only; omega), e2, World.frozen?_alloc_new]

theorem get_hit (t : T) (key : ByteArray) (j : Nat) (hj : keyIx t.pairs key = j) : ∃ h : j < t.pairs.length, t.get key = some (t.pairs[j]).2 := by
  unfold keyIx at hj
  unfold T.get
  cases hx : t.pairs.findIdx? fun p => decide (p.1 = key) with
  | none => rw [hx] at hj; simp only at hj; omega
  | some i =>
    rw [hx] at hj
    simp only at hj
    obtain rfl : i = j := by omega
    obtain ⟨h1, h2, h3⟩ := List.findIdx?_eq_some_iff_getElem.1 hx
    refine ⟨h1, ?_⟩
    have : (t.pairs.find? fun p => decide (p.1 = key)) = some t.pairs[i] := by
      rw [List.find?_eq_some_iff_getElem]
      exact ⟨h2, i, h1, rfl, fun k hk => by simpa using h3 k hk⟩
    rw [this]
    rfl
theorem get_miss (t : T) (key : ByteArray) (h : keyIx t.pairs key < 0) : t.get key = none := by
  unfold keyIx at h
  unfold T.get
  cases hx : t.pairs.findIdx? fun p => decide (p.1 = key) with
  | none =>
    rw [List.find?_eq_none.2 fun p hp => by simpa using List.findIdx?_eq_none_iff.1 hx p hp]
    rfl
  | some i => rw [hx] at h; simp at h; omega

theorem node_pairs {w0 : World} {R : Nat → Prop} {t : T} {cs : Array Value} (h : Lies w0 R t cs) : ∃ a cap cm, SliceP w0 R t.pairs a cap cm ∧ ∀ w, Calls Try.prog 79 #[.agg cs] w fun e w' => e = .returned (.slice a t.pairs.length cap) ∧ Below w.heap.size w w' := by
  cases h with
  | mk k b n s l m la lc ma mc cl cm hk hn hs hl hm rl rm ks il im =>
    by_cases h5 : k = 5
    · have e : (T.mk k b n s l m).pairs = m := by rw [T.pairs, if_pos h5]
      rw [e]
      refine ⟨ma, mc, cm, ⟨hm, rm, ks, im⟩, fun w => ?_⟩
      have := pairs_any k b n s la l.length lc ma m.length mc w
      rw [if_pos h5] at this
      exact this
    · have e : (T.mk k b n s l m).pairs = [] := by rw [T.pairs, if_neg h5]
      rw [e]
      refine ⟨none, 0, cm, ⟨⟨by simp, by simp, fun _ => rfl, fun h => absurd h (by simp), by simp⟩, fun i h => absurd h (by simp), fun i h => absurd h (by simp), fun i h => absurd h (by simp)⟩, fun w => ?_⟩
      have := pairs_any k b n s la l.length lc ma m.length mc w
      rw [if_neg h5] at this
      exact this

set_option maxHeartbeats 1600000 in
theorem tGet_any {w0 : World} {R : Nat → Prop} {t : T} {cs : Array Value} (h : Lies w0 R t cs) (key : ByteArray) (w : World) (hw : Below w0.heap.size w0 w) :
    Calls Try.prog 36 #[.agg cs, .string key] w (Got w (t.get key)) := by
  obtain ⟨a, cap, cm, hP, hcall⟩ := node_pairs h
  have HC := Lib.hid hcall
  have HI := Lib.hid (indexP_any hP key)
  obtain ⟨k, b, n, s, la, ll, lc, ma, ml, mc, rfl⟩ := h.six
  clear hcall
  go_enter Try.func36, Try.ntmps36
  go_wp2_with fail
  refine (HC.out _).mono ?_
  rintro e w1 ⟨rfl, hb1⟩
  obtain ⟨q0, q1, q2, q3⟩ := three_boxes hb1 (by simp)
  have hA := bstep ((((Below.refl w.heap.size w).alloc (Nat.le_refl _) _).alloc (by simp) _).alloc (by simp; omega) _) hb1 (by simp; omega)
  have hs1 : w.heap.size + 3 ≤ w1.heap.size := by have := hb1.size; simp at this; omega
  have k1 := q1 0
  simp at k1
  have Q2 := Lib.hid q2
  have Q3 := Lib.hid q3
  clear q0 q1 q2 q3 hb1
  go_wp2_with fail
  refine (HI.out (w.heap.size + 1) _ (bstep hw hA hw.size) k1).mono ?_
  rintro e w2 ⟨rfl, hb2⟩
  have hA2 := bstep hA hb2 hA.size
  have hs2 := hb2.size
  have z2 : ∀ j, w2.cell? ⟨w.heap.size + 2, j, none⟩ = (#[.int .i64 0, .bool false, .int .i64 0, .string ⟨#[]⟩, .slice none 0 0, .slice none 0 0] : Array Value)[j]? := fun j => (hb2.cell (p := ⟨w.heap.size + 2, j, none⟩) (by simp only; omega)).trans (Q2.out j)
  have f2 : ∀ j, w2.frozen? ⟨w.heap.size + 2, j, none⟩ = false := fun j => (hb2.frozen (p := ⟨w.heap.size + 2, j, none⟩) (by simp only; omega)).trans (Q3.out j)
  by_cases hneg : keyIx t.pairs key < 0
  · have HM := Lib.hid (get_miss t key hneg)
    go_wp2_with fail
    rw [HM.out]
    obtain ⟨dd, hu, hdd⟩ := Try.structV
    refine ret_cells_tmp w2 (w.heap.size + 2) [.int .i64 0, .bool false, .int .i64 0, .string ⟨#[]⟩, .slice none 0 0, .slice none 0 0] rfl Try.results36 rfl rfl hdd hu Try.sizeV (fun i hi => ⟨_, (z2 i).trans (Array.getElem?_eq_getElem (show i < 6 from hi))⟩) ?_
    exact ⟨_, rfl, nil_lies _ _, setRow_below _ (by omega) _ _ _ hA2⟩
  · obtain ⟨j, hj⟩ : ∃ j : Nat, keyIx t.pairs key = j := ⟨(keyIx t.pairs key).toNat, by omega⟩
    obtain ⟨hjl, hget⟩ := get_hit t key j hj
    have HG := Lib.hid hget
    rw [hj]
    have CC := Lib.hid (tClone_any (hP.each j hjl))
    have hl := hP.hdr
    have ll := hl.le
    have lx := hl.big
    obtain ⟨bl, ol, c0, c1, c2, c3, c4, c4l, c4c, c5, c5l, c5c, rfl, hc, r0, r1, r2, r3, r4, r5, r6⟩ := openM (bstep hw hA2 hw.size) hl hP.rows hjl (hP.each j hjl)
    rw [hc] at CC
    clear hc hneg hj hget
    go_wp2_with fail
    refine (CC.out _ (bstep hw hA2 hw.size)).mono ?_
    rintro e w3 ⟨ds, rfl, hL, hb3⟩
    obtain ⟨d0, d1, d2, d3, d4, d4l, d4c, d5, d5l, d5c, rfl⟩ := hL.six
    have hA3 := bstep hA2 hb3 hA2.size
    have z3 : ∀ j, w3.cell? ⟨w.heap.size + 2, j, none⟩ = (#[.int .i64 0, .bool false, .int .i64 0, .string ⟨#[]⟩, .slice none 0 0, .slice none 0 0] : Array Value)[j]? := fun j => (hb3.cell (p := ⟨w.heap.size + 2, j, none⟩) (by simp only; omega)).trans (z2 j)
    have f3 : ∀ j, w3.frozen? ⟨w.heap.size + 2, j, none⟩ = false := fun j => (hb3.frozen (p := ⟨w.heap.size + 2, j, none⟩) (by simp only; omega)).trans (f2 j)
    go_wp2_with fail
    rw [HG.out]
    obtain ⟨dd, hu, hdd⟩ := Try.structV
    refine ret_cells_tmp w3 (w.heap.size + 2) [.int .i64 d0, .bool d1, .int .i64 d2, .string d3, .slice d4 d4l d4c, .slice d5 d5l d5c] rfl Try.results36 rfl rfl hdd hu Try.sizeV (fun i hi => ⟨_, (z3 i).trans (Array.getElem?_eq_getElem (show i < 6 from hi))⟩) ?_
    have hL' : Lies w3 (fun b => w2.heap.size ≤ b) ((some (t.pairs[j]).2).getD T.nil) #[.int .i64 d0, .bool d1, .int .i64 d2, .string d3, .slice d4 d4l d4c, .slice d5 d5l d5c] := hL
    refine ⟨_, rfl, (hL'.keep (fun x hx => ?_)).weaken (fun x hx => ?_), ?_⟩
    · exact setRow_heap _ _ _ _ _ (by omega)
    · omega
    · exact setRow_below _ (by omega) _ _ _ hA3
end Go.Proofs.Ytnfmmgbghbaecaa

/-
  Maps of few pairs: the library's stable sort where it is one insertion sort, and package tree's Map.
-/
set_option linter.unusedVariables false
set_option linter.unusedSimpArgs false
namespace Go.Proofs.Ytnfmmgbghbaecaa
open Go.RowKit Go.Sort

theorem insertion_zero (a : Option Addr) (cap : Nat) (w : World) :
    Calls Try.prog 117 #[.slice a 0 cap, .int .i64 0, .int .i64 0, .func (Fn.func 88) #[] #[]] w fun e w' => e = .returned (.tuple #[]) ∧ w = w' := by
  go_enter Try.func117, Try.ntmps117
  go_wp2_with fail
  go_rounds 1
  go_end0
  exact ⟨rfl, rfl⟩

set_option maxHeartbeats 400000 in
theorem stable_zero (a : Option Addr) (cap : Nat) (w : World) :
    Calls Try.prog 107 #[.slice a 0 cap, .int .i64 0, .func (Fn.func 88) #[] #[]] w fun e w' => e = .returned (.tuple #[]) ∧ w = w' := by
  go_enter Try.func107, Try.ntmps107
  go_wp2_with fail
  refine wp_loop_rounds 1 ?_
  rw [rounds_succ]
  go_wp2_with fail
  refine (insertion_zero _ _ _).mono ?_
  rintro e w1 ⟨rfl, rfl⟩
  go_wp2_with fail
  refine wp_loop_rounds 1 ?_
  rw [rounds_succ]
  go_wp2_with fail
  go_end0
  exact ⟨rfl, rfl⟩

set_option maxHeartbeats 400000 in
theorem sort_zero (a : Option Addr) (cap : Nat) (w : World) :
    Calls Try.prog 87 #[.slice a 0 cap, .func (Fn.func 88) #[] #[]] w fun e w' => e = .returned (.tuple #[]) ∧ w = w' := by
  go_enter Try.func87, Try.ntmps87
  go_wp2_with fail
  refine (stable_zero _ _ _).mono ?_
  rintro e w1 ⟨rfl, rfl⟩
  go_wp2_with fail
  go_end0
  exact ⟨rfl, rfl⟩

def Sorted (w : World) (base g n cap : Nat) (L : List Q) (e : Ending) (w' : World) : Prop := e = .returned (.tuple #[]) ∧ OwnQ w' base g n cap (insN (·.1) n L) ∧ w.grownBy w' (some g)

set_option maxHeartbeats 400000 in
theorem stable_few (base g n cap : Nat) (L : List Q) (w : World) (h : OwnQ w base g n cap L) (hn : n < 20) (hn0 : 0 < n) :
    Calls Try.prog 107 #[.slice (some ⟨g, 0, none⟩) n cap, .int .i64 n, .func (Fn.func 88) #[] #[]] w (Sorted w base g n cap L) := by
  have HI := Lib.hid (insertion_any base g n cap L w h (by omega) hn0)
  clear h
  go_enter Try.func107, Try.ntmps107
  go_wp2_with fail
  refine wp_loop_rounds 1 ?_
  rw [rounds_succ]
  go_wp2_with fail
  refine HI.out.mono ?_
  rintro e w1 ⟨rfl, hO, hG⟩
  have HO := Lib.hid hO
  clear hO
  go_wp2_with fail
  refine wp_loop_rounds 1 ?_
  rw [rounds_succ]
  go_wp2_with fail
  go_end0
  exact ⟨rfl, HO.out, hG⟩

set_option maxHeartbeats 400000 in
theorem sort_few (base g n cap : Nat) (L : List Q) (w : World) (h : OwnQ w base g n cap L) (hn : n < 20) (hn0 : 0 < n) :
    Calls Try.prog 87 #[.slice (some ⟨g, 0, none⟩) n cap, .func (Fn.func 88) #[] #[]] w (Sorted w base g n cap L) := by
  have HI := Lib.hid (stable_few base g n cap L w h hn hn0)
  clear h
  go_enter Try.func87, Try.ntmps87
  go_wp2_with fail
  refine HI.out.mono ?_
  rintro e w1 ⟨rfl, hO, hG⟩
  have HO := Lib.hid hO
  clear hO
  go_wp2_with fail
  go_end0
  exact ⟨rfl, HO.out, hG⟩

/-! ### The library's Clone of a slice of pairs -/

def qlist (ps : List (ByteArray × T)) (cm : Nat → Array Value) : List Q := ps.zipIdx.map fun x => (x.1.1, x.1.2, cm x.2)
theorem qlist_len (ps : List (ByteArray × T)) (cm : Nat → Array Value) : (qlist ps cm).length = ps.length := by simp [qlist]
theorem qlist_get (ps : List (ByteArray × T)) (cm : Nat → Array Value) (i : Nat) (h : i < (qlist ps cm).length) : (qlist ps cm)[i] = ((ps[i]'(by simpa [qlist] using h)).1, (ps[i]'(by simpa [qlist] using h)).2, cm i) := by simp [qlist]

theorem flat_inv {s : Nat} (hs : 0 < s) (D : List (Array Value)) (hD : ∀ d ∈ D, d.size = s) (j : Nat) (u : Value) (h : (D.flatMap Array.toList)[j]? = some u) : ∃ (i k : Nat) (hi : i < D.length) (hk : k < D[i].size), j = i * s + k ∧ u = D[i][k] := by
  have hj : j < D.length * s := by rw [← flat_len D hD]; exact (List.getElem?_eq_some_iff.1 h).1
  have hi : j / s < D.length := Nat.div_lt_of_lt_mul (by rw [Nat.mul_comm]; exact hj)
  have hd := hD D[j / s] (List.getElem_mem hi)
  have hk : j % s < D[j / s].size := by rw [hd]; exact Nat.mod_lt _ hs
  have e : j = j / s * s + j % s := by rw [Nat.mul_comm]; exact (Nat.div_add_mod j s).symm
  refine ⟨j / s, j % s, hi, hk, e, ?_⟩
  have := flat_get D hD (j / s) hi (j % s) hk
  rw [← e, h] at this
  exact Option.some.inj this

theorem qlist_six {w : World} {R : Nat → Prop} {ps : List (ByteArray × T)} {a : Option Addr} {cap : Nat} {cm : Nat → Array Value} (h : SliceP w R ps a cap cm) (i : Nat) (hi : i < (qlist ps cm).length) :
    ∃ (k : Int) (b : Bool) (m : Int) (s : ByteArray) (la : Option Addr) (ll lc : Nat) (ma : Option Addr) (ml mc : Nat), (qlist ps cm)[i].2.2 = #[.int .i64 k, .bool b, .int .i64 m, .string s, .slice la ll lc, .slice ma ml mc] := by
  rw [qlist_get]
  exact (h.each i (by simpa [qlist] using hi)).six
theorem qlist_rows {w : World} {R : Nat → Prop} {ps : List (ByteArray × T)} {a : Option Addr} {cap : Nat} {cm : Nat → Array Value} (h : SliceP w R ps a cap cm) : ∀ d ∈ (qlist ps cm).map qrow, d.size = 7 := fun d hd => by
  obtain ⟨q, hq, rfl⟩ := List.mem_map.1 hd
  obtain ⟨i, hi, rfl⟩ := List.getElem_of_mem hq
  obtain ⟨k, b, m, s, la, ll, lc, ma, ml, mc, e⟩ := qlist_six h i hi
  simp [qrow, e]
theorem qlist_cells {w : World} {R : Nat → Prop} {ps : List (ByteArray × T)} {bl ol cap : Nat} {cm : Nat → Array Value} (h : SliceP w R ps (some ⟨bl, ol, none⟩) cap cm) (j : Nat) (u : Value) (hj : (flatQ (qlist ps cm))[j]? = some u) : w.cell? ((⟨bl, ol, none⟩ : Addr).add j) = some u := by
  obtain ⟨i, k, hi, hk, rfl, rfl⟩ := flat_inv (by omega) _ (qlist_rows h) j u hj
  have hi' : i < ps.length := by simpa [qlist] using hi
  have er : ((qlist ps cm).map qrow)[i] = #[Value.string (ps[i]).1] ++ cm i := by simp [qrow, qlist_get]
  have hk' : k < (#[Value.string (ps[i]).1] ++ cm i).size := by rw [← er]; exact hk
  have := h.rows i hi' bl ol rfl k hk'
  rw [Addr.add_lit, ← Nat.add_assoc, this]
  exact congrArg some (get_congr er.symm k _ _)
theorem qlist_one {w : World} {R : Nat → Prop} {ps : List (ByteArray × T)} {a : Option Addr} {cap : Nat} {cm : Nat → Array Value} (h : SliceP w R ps a cap cm) : ∀ u ∈ flatQ (qlist ps cm), u.oneCell' = true := fun u hu => by
  obtain ⟨d, hd, hu⟩ := List.mem_flatMap.1 hu
  obtain ⟨q, hq, rfl⟩ := List.mem_map.1 hd
  obtain ⟨i, hi, rfl⟩ := List.getElem_of_mem hq
  obtain ⟨k, b, m, s, la, ll, lc, ma, ml, mc, e⟩ := qlist_six h i hi
  simp [qrow, e] at hu
  rcases hu with rfl | rfl | rfl | rfl | rfl | rfl | rfl <;> rfl

def CopiedP (w : World) (ps : List (ByteArray × T)) (cm : Nat → Array Value) (e : Ending) (w' : World) : Prop := ∃ g cap, e = .returned (.slice (some ⟨g, 0, none⟩) ps.length cap) ∧ w.heap.size ≤ g ∧ g < w'.heap.size ∧ OwnQ w' w.heap.size g ps.length cap (qlist ps cm) ∧ Below w.heap.size w w'

set_option maxHeartbeats 400000 in
theorem sCloneP_any {w : World} {R : Nat → Prop} {ps : List (ByteArray × T)} {a : Option Addr} {cap : Nat} {cm : Nat → Array Value} (h : SliceP w R ps a cap cm) (hp : 0 < ps.length) :
    Calls Try.prog 85 #[.slice a ps.length cap] w (CopiedP w ps cm) := by
  obtain ⟨bl, ol, rfl, hR⟩ := h.hdr.some hp
  have hl := h.hdr.le
  have hx := h.hdr.big
  have H := Lib.hid h
  have hlt : bl < w.heap.size := Row.lt (h.rows 0 hp bl ol rfl) (by simp; omega)
  clear h
  obtain ⟨i0, hi, hz0, hz1, hz2⟩ := info_parts Try.infoP
  have hq : ∀ wx : World, (binOp .eql 23 (.slice (some ⟨bl, ol, none⟩) ps.length cap) (.slice none 0 0)).run Try.prog wx = .ok (.bool false) wx := fun wx => Lib.run_eql_slice_nil wx 23 35 _ _ _ _ _ Try.underlying23
  have hfl : (flatQ (qlist ps cm)).length = ps.length * 7 := by
    unfold flatQ
    rw [flat_len _ (qlist_rows H.out)]
    simp [qlist]
  have HF := Lib.hid hfl
  clear hfl
  have hown := World.ownsRow_lit (base := w.heap.size) (e := 35) (size := 7) w #[] 0 (Nat.le_refl _) (by decide) (by simp)
  go_enter Try.func85, Try.ntmps85
  go_wp2_with (at_builtin; refine wpList_append_own _ rfl (.tmp 5) (.tmp 6) 23 rfl w.heap.size 35 i0 _ 7 104 Try.underlying23 hi hz0 hz1 hz2 rfl (by decide) _ 0 _ rfl hown ⟨bl, ol, none⟩ ps.length cap (flatQ (qlist ps cm)) rfl HF.out ?c1 ?c2 ?c3 ?c4 ?c5 ?_)
  case c1 =>
    intro j u hu
    have h0 := qlist_cells H.out j u hu
    rw [Addr.add_lit] at h0
    exact h0
  case c2 => exact qlist_one H.out
  case c3 => unfold maxLen; omega
  intro v w1 ho hg hnil
  obtain ⟨g, cap2, rfl, hge⟩ : ∃ g cap2, v = .slice (some ⟨g, 0, none⟩) ps.length cap2 ∧ w.heap.size ≤ g := by
    rcases ho.2 with ⟨rfl, h0⟩ | ⟨g, cap2, cur, e, hge, _⟩
    · omega
    · exact ⟨g, cap2, by rw [e], hge⟩
  have hgl := ho.lt g (by simp [Value.ownBlock])
  have hO : OwnQ w1 w.heap.size g ps.length cap2 (qlist ps cm) := ⟨qlist_len _ _, by simpa using ho, fun i hi => qlist_six H.out i hi⟩
  have hB : Below w.heap.size w w1 := ((Below.refl w.heap.size w).alloc (Nat.le_refl _) _).grown hg (by simp) (by simp [Value.ownBlock])
  have HO := Lib.hid hO
  clear hO ho
  go_wp2_with fail
  go_ret
  exact ⟨_, _, rfl, hge, hgl.2, HO.out, hB⟩

/-! ### Map -/

/-- Of several of one key in a row the last one: of the first j. -/
def keepTo {α : Type} (key : α → ByteArray) (S : List α) : Nat → List α
  | 0 => []
  | j + 1 => match S[j]? with
    | none => keepTo key S j
    | some p => if (S[j + 1]?).map key = some (key p) then keepTo key S j else keepTo key S j ++ [p]

theorem keepTo_skip {α : Type} (key : α → ByteArray) (S : List α) (j : Nat) (h : j + 1 < S.length) (e : key S[j + 1] = key S[j]) : keepTo key S (j + 1) = keepTo key S j := by
  rw [keepTo, List.getElem?_eq_getElem (by omega : j < S.length), List.getElem?_eq_getElem h]
  simp [e]
theorem keepTo_keep {α : Type} (key : α → ByteArray) (S : List α) (j : Nat) (hj : j < S.length) (h : ∀ h : j + 1 < S.length, key S[j + 1] ≠ key S[j]) : keepTo key S (j + 1) = keepTo key S j ++ [S[j]] := by
  rw [keepTo, List.getElem?_eq_getElem hj]
  by_cases hl : j + 1 < S.length
  · rw [List.getElem?_eq_getElem hl]
    simp [h hl]
  · rw [List.getElem?_eq_none (by omega)]
    simp
theorem keepTo_map {α β : Type} (f : α → β) (key : β → ByteArray) (S : List α) : ∀ j, (keepTo (fun a => key (f a)) S j).map f = keepTo key (S.map f) j
  | 0 => rfl
  | j + 1 => by
    rw [keepTo, keepTo, List.getElem?_map, List.getElem?_map, ← keepTo_map f key S j]
    cases S[j]? with
    | none => rfl
    | some p =>
      simp only [Option.map_some, Option.map_map]
      have : (Option.map (key ∘ f) S[j + 1]?) = Option.map (fun a => key (f a)) S[j + 1]? := rfl
      rw [this]
      split <;> simp
theorem keepTo_len {α : Type} (key : α → ByteArray) (S : List α) : ∀ j, (keepTo key S j).length ≤ j
  | 0 => by simp [keepTo]
  | j + 1 => by
    have := keepTo_len key S j
    rw [keepTo]
    split
    · omega
    · split
      · omega
      · simp; omega
theorem bubL_map {α β : Type} (f : α → β) (key : β → ByteArray) : ∀ (j : Nat) (L : List α), (bubL (fun a => key (f a)) j L).map f = bubL key j (L.map f)
  | 0, L => rfl
  | j + 1, L => by
    rw [bubL, bubL, List.getElem?_map, List.getElem?_map]
    cases h1 : L[j + 1]? with
    | none => simp
    | some x =>
      cases h2 : L[j]? with
      | none => simp
      | some y =>
        simp only [Option.map_some]
        split
        · rw [bubL_map f key j]; simp [List.map_set]
        · rfl
theorem insN_map {α β : Type} (f : α → β) (key : β → ByteArray) : ∀ (j : Nat) (L : List α), (insN (fun a => key (f a)) j L).map f = insN key j (L.map f)
  | 0, L => rfl
  | j + 1, L => by rw [insN, insN, bubL_map, insN_map f key j]

def strip (q : Q) : ByteArray × T := (q.1, q.2.1)
theorem strip_qlist (ps : List (ByteArray × T)) (cm : Nat → Array Value) : (qlist ps cm).map strip = ps := by
  apply List.ext_getElem
  · simp [qlist]
  · intro i h1 h2
    simp [qlist, strip]

/-- The own slice of what is kept. -/
structure KeptP (base : Nat) (w : World) (S : List Q) (j : Nat) (v : Value) (K : List Q) : Prop where
  own : w.ownsRow base 35 7 v K.length (flatQ K)
  each : ∀ i (h : i < K.length), Lies w (fun b => base ≤ b ∧ some b ≠ v.ownBlock) K[i].2.1 K[i].2.2
  keys : ∀ i (h : i < K.length), K[i].1.size ≤ 140737488355328
  res : K.map strip = (keepTo (·.1) S j).map strip
  le : j ≤ S.length

theorem KeptP.skip {base : Nat} {w : World} {S : List Q} {j : Nat} {v : Value} {K : List Q} (h : KeptP base w S j v K) {w' : World} (hb : Below w.heap.size w w') (hj : j + 1 < S.length) (e : S[j + 1].1 = S[j].1) : KeptP base w' S (j + 1) v K :=
  ⟨h.own.kept (grown_of_below hb none) (by cases v.ownBlock <;> simp), fun i hi => (h.each i hi).later hb, h.keys, by rw [h.res, keepTo_skip _ _ _ hj e], by omega⟩

theorem KeptP.len {base : Nat} {w : World} {S : List Q} {j : Nat} {v : Value} {K : List Q} (h : KeptP base w S j v K) : K.length ≤ j := by
  have := congrArg List.length h.res
  simp only [List.length_map] at this
  rw [this]
  exact keepTo_len _ _ _

theorem KeptP.step {base : Nat} {wr w2 w3 : World} {S : List Q} {j : Nat} {v v' : Value} {K : List Q} {blk : Obj} {ds : Array Value} (h : KeptP base wr S j v K) (hbase : base ≤ wr.heap.size) (hj : j < S.length) (hk : ∀ h : j + 1 < S.length, S[j + 1].1 ≠ S[j].1)
    (hks : S[j].1.size ≤ 140737488355328) (hb : Below wr.heap.size wr w2) (hL : Lies w2 (fun b => wr.heap.size ≤ b) S[j].2.1 ds)
    (own : w3.ownsRow base 35 7 v' (K.length + 1) (flatQ K ++ (#[Value.string S[j].1] ++ ds).toList)) (hg3 : (w2.alloc blk).grownBy w3 v.ownBlock) (hat : v'.ownBlock = v.ownBlock ∨ v'.ownBlock = some (w2.alloc blk).heap.size) :
    KeptP base w3 S (j + 1) v' (K ++ [(S[j].1, S[j].2.1, ds)]) := by
  have hs1 : wr.heap.size ≤ w2.heap.size := hb.size
  have k2 : ∀ b, b < w2.heap.size → some b ≠ v.ownBlock → w3.heap[b]? = w2.heap[b]? := fun b hb' hne => (hg3.block b (by simp; omega) hne).trans (Below.heap_alloc _ _ _ hb')
  have kv : ∀ b, b < w2.heap.size → some b ≠ v.ownBlock → some b ≠ v'.ownBlock := fun b hb' hne e => by
    rcases hat with h1 | h1
    · exact hne (e.trans h1)
    · rw [h1] at e
      simp at e
      omega
  have kl : ∀ b, wr.heap.size ≤ b → some b ≠ v.ownBlock := fun b hb' e => by
    have := h.own.lt b e.symm
    omega
  refine ⟨by simpa [flatQ, qrow] using own, fun i hi => ?_, fun i hi => ?_, ?_, by omega⟩
  · by_cases hij : i < K.length
    · have e : (K ++ [(S[j].1, S[j].2.1, ds)])[i] = K[i] := List.getElem_append_left hij
      rw [e]
      have := ((h.each i hij).later hb).bound
      have h0 := ((h.each i hij).bound.later hb)
      have := h0.keepB (w' := w3) (fun b hR hlt => k2 b hlt hR.1.2)
      exact this.weaken fun b hb' => ⟨hb'.1.1.1, kv b hb'.2 hb'.1.1.2⟩
    · have e2 : i = K.length := by simp at hi; omega
      subst e2
      have e : (K ++ [(S[j].1, S[j].2.1, ds)])[K.length]'hi = (S[j].1, S[j].2.1, ds) := by rw [List.getElem_append_right (by omega)]; simp
      rw [e]
      have := hL.keepB (w' := w3) (fun b hR hlt => k2 b hlt (kl b hR))
      exact this.weaken fun b hb' => ⟨by omega, kv b hb'.2 (kl b hb'.1)⟩
  · by_cases hij : i < K.length
    · have e : (K ++ [(S[j].1, S[j].2.1, ds)])[i] = K[i] := List.getElem_append_left hij
      rw [e]
      exact h.keys i hij
    · have e2 : i = K.length := by simp at hi; omega
      subst e2
      have e : (K ++ [(S[j].1, S[j].2.1, ds)])[K.length]'hi = (S[j].1, S[j].2.1, ds) := by rw [List.getElem_append_right (by omega)]; simp
      rw [e]
      exact hks
  · rw [keepTo_keep _ _ _ hj hk, List.map_append, List.map_append, h.res]
    rfl

theorem KeptP.rowsize {base : Nat} {w : World} {S : List Q} {j : Nat} {v : Value} {K : List Q} (h : KeptP base w S j v K) : ∀ d ∈ K.map qrow, d.size = 7 := fun d hd => by
  obtain ⟨q, hq, rfl⟩ := List.mem_map.1 hd
  obtain ⟨i, hi, rfl⟩ := List.getElem_of_mem hq
  have := (h.each i hi).size6
  simp [qrow, this]

/-- What is kept, as a slice of pairs. -/
theorem KeptP.done {base : Nat} {w : World} {S : List Q} {j : Nat} {v : Value} {K : List Q} (h : KeptP base w S j v K) (hx : K.length * 104 ≤ 140737488355328) :
    ∃ a cap cm, v = .slice a (K.map strip).length cap ∧ SliceP w (fun b => base ≤ b) (K.map strip) a cap cm := by
  rcases h.own.2 with ⟨rfl, h0⟩ | ⟨g, cap, cur, rfl, hbg, hgc, hnc, hcm, hcs, htake⟩
  · refine ⟨none, 0, fun _ => #[], by simp [h0], ⟨by simp [h0], by simp [h0], fun _ => rfl, fun hp => absurd hp (by simp [h0]), by omega⟩, fun i hi => absurd hi (by simp [h0]), fun i hi => absurd hi (by simp [h0]), fun i hi => absurd hi (by simp [h0])⟩
  · refine ⟨some ⟨g, 0, none⟩, cap, fun i => ((K[i]?).map (·.2.2)).getD #[], by simp, ⟨by simpa using hnc, by simpa using hx, by simp, fun _ => ⟨g, 0, rfl, hbg⟩, by unfold maxLen at hcm; omega⟩, fun i hi bl ol e k hk => ?_, fun i hi => ?_, fun i hi => ?_⟩
    · simp only [Option.some.injEq, Addr.mk.injEq, and_true] at e
      obtain ⟨rfl, rfl⟩ := e
      have hi' : i < K.length := by simpa using hi
      have hi2 : i < (K.map qrow).length := by simpa using hi
      have er : (K.map qrow)[i] = #[Value.string ((K.map strip)[i]).1] ++ ((K[i]?).map (·.2.2)).getD #[] := by simp [qrow, strip, List.getElem?_eq_getElem hi']
      have hk7 : k < ((K.map qrow)[i]).size := by rw [er]; exact hk
      have h7 := h.rowsize _ (List.getElem_mem hi2)
      have hlt : i * 7 + k < K.length * 7 := by omega
      have := flat_get (K.map qrow) h.rowsize i hi2 k hk7
      rw [Nat.zero_add, h.own.cellAt (i * 7 + k) hlt, flatQ, this]
      exact congrArg some (get_congr er k _ _)
    · have hi' : i < K.length := by simpa using hi
      simpa [strip] using h.keys i hi'
    · have hi' : i < K.length := by simpa using hi
      have := (h.each i hi').weaken (R' := fun b => base ≤ b) fun b hb => hb.1
      simpa [strip, List.getElem?_eq_getElem hi'] using this

/-- What Map makes, where the sort is one insertion sort. -/
def T.mkMap (ps : List (ByteArray × T)) : T := .mk 5 false 0 ⟨#[]⟩ [] (keepTo (·.1) (insN (·.1) ps.length ps) ps.length)

def MadeMap (w : World) (ps : List (ByteArray × T)) (e : Ending) (w' : World) : Prop := ∃ ds, e = .returned (.agg ds) ∧ Lies w' (fun b => w.heap.size ≤ b) (T.mkMap ps) ds ∧ Below w.heap.size w w'

end Go.Proofs.Ytnfmmgbghbaecaa

/-
  Package tree's Map, of few pairs.
-/
set_option linter.unusedVariables false
set_option linter.unusedSimpArgs false
namespace Go.Proofs.Ytnfmmgbghbaecaa
open Go.RowKit Go.Sort

theorem qlist_lies {w : World} {R : Nat → Prop} {ps : List (ByteArray × T)} {a : Option Addr} {cap : Nat} {cm : Nat → Array Value} (h : SliceP w R ps a cap cm) {q : Q} (hq : q ∈ qlist ps cm) : Lies w R q.2.1 q.2.2 ∧ q.1.size ≤ 140737488355328 := by
  obtain ⟨i, hi, rfl⟩ := List.getElem_of_mem hq
  have hi' : i < ps.length := by simpa [qlist] using hi
  rw [qlist_get]
  exact ⟨h.each i hi', h.keys i hi'⟩

theorem wf5 : (Lit.int .i64 5).wf = true := by decide
theorem wf0 : (Lit.int .i64 0).wf = true := by decide
theorem empty_size : (⟨#[]⟩ : ByteArray).size ≤ 140737488355328 := Nat.zero_le _
theorem empty_sliceV (w : World) (R : Nat → Prop) : SliceV w R [] none 0 (fun _ => #[]) := ⟨⟨by simp, by simp, fun _ => rfl, fun hp => absurd hp (by simp), by omega⟩, fun i hi => absurd hi (by simp), fun i hi => absurd hi (by simp)⟩

set_option maxRecDepth 100000 in
set_option maxHeartbeats 1600000 in
theorem tMap_few {w0 : World} {R : Nat → Prop} {ps : List (ByteArray × T)} {a : Option Addr} {cap : Nat} {cm : Nat → Array Value} (h : SliceP w0 R ps a cap cm) (hp : 0 < ps.length) (hp2 : ps.length < 20) (w : World) (hw : Below w0.heap.size w0 w) :
    Calls Try.prog 42 #[.slice a ps.length cap] w (MadeMap w ps) := by
  have hW := h.later hw
  have h1 := hW.later (Below.alloc (Below.refl w.heap.size w) (Nat.le_refl _) (.cells #[.int .i64 0, .bool false, .int .i64 0, .string ⟨#[]⟩, .slice none 0 0, .slice none 0 0] 25))
  have HC := Lib.hid (sCloneP_any h1 hp)
  have hx := h.hdr.big
  have H := Lib.hid h
  clear h hW h1
  obtain ⟨i0, hi, hz0, hz1, hz2⟩ := info_parts Try.infoP
  go_enter Try.func42, Try.ntmps42
  go_wp2_with fail
  refine HC.out.mono ?_
  rintro e w1 ⟨g, cap1, rfl, hge, hgl, hO, hB⟩
  have HS := Lib.hid (sort_few _ g _ cap1 _ _ hO hp2 hp)
  clear hO
  go_wp2_with fail
  refine HS.out.mono ?_
  rintro e w2 ⟨rfl, hO2, hG2⟩
  have hsz : (insN (fun x : Q => x.1) ps.length (qlist ps cm)).length = ps.length := hO2.len
  have hLS : ∀ q ∈ insN (fun x : Q => x.1) ps.length (qlist ps cm), Lies w0 R q.2.1 q.2.2 ∧ q.1.size ≤ 140737488355328 := fun q hq => qlist_lies H.out (mem_insN _ _ _ _ hq)
  have hstrip : (insN (fun x : Q => x.1) ps.length (qlist ps cm)).map strip = insN (·.1) ps.length ps := by
    have := insN_map strip (·.1) ps.length (qlist ps cm)
    rw [strip_qlist] at this
    exact this
  have hB2 : Below w.heap.size w w2 := (bunbox hB (Nat.le_refl _) (by simp)).grown hG2 (by have := hB.size; simp at this; omega) (by simp; simp at hge; omega)
  have hcell : ∀ i, i < 6 → ∃ u, w2.cell? ⟨w.heap.size, i, none⟩ = some u := fun i hi => ⟨_, by
    rw [World.cell?_of_block (hG2.block _ (by have := hB.size; simp at this; simp; omega) (by simp; simp at hge; omega))]
    exact box_cell hB (by simp) (Array.getElem?_eq_getElem (show i < 6 from hi))⟩
  have hfroz : ∀ j, w2.frozen? ⟨w.heap.size, j, none⟩ = false := fun j => by
    rw [World.frozen?_of_block (hG2.block _ (by have := hB.size; simp at this; simp; omega) (by simp; simp at hge; omega)), hB.frozen (p := ⟨w.heap.size, j, none⟩) (by simp), World.frozen?_alloc_new]
  have HFz := Lib.hid hfroz
  have hBw := bstep hw hB2 hw.size
  have hlt2 : w.heap.size < w2.heap.size := by have := hB.size; have := hG2.size; simp at *; omega
  have HO2 := Lib.hid hO2
  have HL := Lib.hid hLS
  have HT := Lib.hid hstrip
  have HCe := Lib.hid hcell
  clear hO2 hLS hstrip hcell hfroz hB hG2
  generalize hS : insN (fun x : Q => x.1) ps.length (qlist ps cm) = S at *
  clear hS HS
  go_wp2_with fail
  go_loopw [4, 13] (fun vk vi wr => ∃ (j : Nat) (K : List Q), vi = .int .i64 j ∧ KeptP w2.heap.size wr S j vk K ∧ Below w2.heap.size w2 wr) (fun _ vi _ => ps.length - (intOf vi).toNat)
  case atStart => exact ⟨0, [], rfl, ⟨World.ownsRow_nil w2 _ _ _, fun i hi => absurd hi (by simp), fun i hi => absurd hi (by simp), rfl, by omega⟩, Below.refl _ _⟩
  case round =>
    obtain ⟨j, K, rfl, hK, hbw⟩ := hrel
    have hj := hK.le
    have hbr := bstep hBw hbw (by have := hBw.size; omega)
    by_cases hjl : j < S.length
    · obtain ⟨k, b, m, s, la, ll, lc, ma, ml, mc, eq, r0, r1, r2, r3, r4, r5, r6⟩ := (HO2.out.kept hbw).row j hjl
      have hq := HL.out S[j] (List.getElem_mem _)
      have HK := Lib.hid hK
      clear hK
      have hl : decide ((j : Int) < (ps.length : Int)) = true := by simp; omega
      have e3 : IntKind.i64.wrap ((j : Int) + 1) = (j : Int) + 1 := IntWalk.i64_in _ (by omega)
      have e4 : (0 : Int) ≤ (j : Int) + 1 := by omega
      have e5 : ((j : Int) + 1).toNat = j + 1 := by omega
      by_cases hkeep : ∀ h : j + 1 < S.length, S[j + 1].1 ≠ S[j].1
      · have CP := Lib.hid (fun w hw => clonePair_any (w0 := w0) (p := strip S[j]) hq.1 (fun w hw => tClone_any hq.1 w hw) w hw)
        simp only [strip, eq] at CP
        have HKe := Lib.hid hkeep
        by_cases hlast : j + 1 = S.length
        focus
          have e2 : ((j : Int) + 1 == (ps.length : Int)) = true := by simp; omega
          clear hkeep
          go_wp2_with fail
          go_quiet (fail)
        rotate_left
        focus
          have e2 : ((j : Int) + 1 == (ps.length : Int)) = false := by simp; omega
          have hj1 : j + 1 < S.length := by omega
          have hj2 : (j : Int) + 1 < (ps.length : Int) := by omega
          have hj3 : j + 1 < ps.length := by omega
          have hne := str_ne (hkeep hj1)
          have hne2 : (S[j + 1].1.toList != S[j].1.toList) = true := by simp [bne, hne]
          obtain ⟨k', b', m', s', la', ll', lc', ma', ml', mc', eq', r0', r1', r2', r3', r4', r5', r6'⟩ := (HO2.out.kept hbw).row (j + 1) hj1
          have x0 := cells_frame (Below.alloc (Below.refl _ _) (Nat.le_refl _) (.cells #[.string S[j].1, .int .i64 k, .bool b, .int .i64 m, .string s, .slice la ll lc, .slice ma ml mc] 35)) r0'
          clear eq' r0' r1' r2' r3' r4' r5' r6'
          clear hkeep
          go_wp2_with fail
          go_quiet (fail)
        all_goals
          go_wp2_with fail
          refine (CP.out _ (bdrewN (bbox hbr _ hbr.size) _)).mono ?_
          rintro e w3 ⟨ds, rfl, hL, hb1⟩
          obtain ⟨d0, d1, d2, d3, d4, d4l, d4c, d5, d5l, d5c, rfl⟩ := hL.six
          have hbW := (bdrewN (bbox (Below.refl wr.heap.size wr) (.cells #[.string S[j].1, .int .i64 k, .bool b, .int .i64 m, .string s, .slice la ll lc, .slice ma ml mc] 35) (Nat.le_refl _)) nq).trans (hb1.mono (by simp))
          have hLw := hL.weaken (R' := fun b => wr.heap.size ≤ b) (fun b hb => by simp at hb; omega)
          have own2 := HK.out.own.kept (grown_of_below hbW none) (by cases u4.ownBlock <;> simp)
          have hKl := HK.out.len
          have hrs := hbr.size
          have hws := hbw.size
          have hw3 := hbW.size
          have hLw2 := Lib.hid hLw
          have hbW2 := Lib.hid hbW
          clear hLw hbW hL hb1
          go_wp2_with (at_builtin; refine wpList_append_own_at _ rfl (.tmp 34) (.tmp 37) 23 rfl w2.heap.size 35 i0 _ 7 104 Try.underlying23 hi hz0 hz1 hz2 rfl (by decide) _ _ _ rfl (own2.alloc _) ⟨w3.heap.size, 0, none⟩ 1 1 [.string S[j].1, .int .i64 d0, .bool d1, .int .i64 d2, .string d3, .slice d4 d4l d4c, .slice d5 d5l d5c] rfl rfl ?c1 ?c2 ?c3 ?c4 ?c5 ?_)
          case c1 => exact fun j u hu => lit_cells w3 _ _ j u hu
          case c2 =>
            intro u hu
            simp at hu
            rcases hu with rfl | rfl | rfl | rfl | rfl | rfl | rfl <;> rfl
          case c3 => unfold maxLen; omega
          case c4 => omega
          case c5 => simp; omega
          intro v4 w4 own4 hg4 hnil4 hat4
          have hK4 := HK.out.step hws hjl HKe.out hq.2 hbW2.out hLw2.out own4 hg4 (by simpa using hat4)
          have hb4 : Below w2.heap.size w2 w4 := ((bstep hbw hbW2.out hws).alloc (by omega) _).grown hg4 (by simp; omega) (fun k hk => (HK.out.own.lt k hk).1)
          have HK4 := Lib.hid hK4
          have hb4' := Lib.hid hb4
          clear hK4 hb4 own4 hg4 hnil4 hat4
          go_wp2_with fail
          go_roundw
          case rel => exact ⟨j + 1, _, by go_num, HK4.out, hb4'.out⟩
          case measure => simp [intOf]; omega
      · have hj1 : j + 1 < S.length := Classical.byContradiction fun hc => hkeep fun h1 => absurd h1 hc
        have he : S[j + 1].1 = S[j].1 := Classical.byContradiction fun hc => hkeep fun h1 => hc
        clear hkeep
        have hj3 : j + 1 < ps.length := by rw [← hsz]; exact hj1
        have HE := Lib.hid he
        clear he
        have hj2 : (j : Int) + 1 < (ps.length : Int) := by omega
        have e2 : ((j : Int) + 1 == (ps.length : Int)) = false := by simp; omega
        have hne : (S[j + 1].1.toList == S[j].1.toList) = true := by rw [HE.out]; simp
        have hne2 : (S[j + 1].1.toList != S[j].1.toList) = false := by rw [HE.out]; simp
        obtain ⟨k', b', m', s', la', ll', lc', ma', ml', mc', eq', r0', r1', r2', r3', r4', r5', r6'⟩ := (HO2.out.kept hbw).row (j + 1) hj1
        have x0 := cells_frame (Below.alloc (Below.refl _ _) (Nat.le_refl _) (.cells #[.string S[j].1, .int .i64 k, .bool b, .int .i64 m, .string s, .slice la ll lc, .slice ma ml mc] 35)) r0'
        clear eq' r0' r1' r2' r3' r4' r5' r6'
        go_wp2_with fail
        go_quiet (fail)
        go_wp2_with fail
        have hbn := bdrewN (bbox (Below.refl wr.heap.size wr) (.cells #[.string S[j].1, .int .i64 k, .bool b, .int .i64 m, .string s, .slice la ll lc, .slice ma ml mc] 35) (Nat.le_refl _)) nq
        go_roundw
        case rel => exact ⟨j + 1, K, by go_num, HK.out.skip hbn hj1 HE.out, bstep hbw hbn hbw.size⟩
        case measure => simp [intOf]; omega
    · obtain rfl : j = S.length := by omega
      have hKl := hK.len
      obtain ⟨ra, rcap, rcm, rfl, hS⟩ := hK.done (by omega)
      have hres := hK.res
      have HSl := Lib.hid hS
      have HR := Lib.hid hres
      clear hS hK hres
      have hl : decide ((S.length : Int) < (ps.length : Int)) = false := by simp; omega
      have hcr : ∀ i, i < 6 → ∃ u, wr.cell? ⟨w.heap.size, i, none⟩ = some u := fun i hi => by
        rw [hbw.cell (p := ⟨w.heap.size, i, none⟩) hlt2]
        exact HCe.out i hi
      have hfr : ∀ j, wr.frozen? ⟨w.heap.size, j, none⟩ = false := fun j => by rw [hbw.frozen (p := ⟨w.heap.size, j, none⟩) hlt2]; exact HFz.out j
      obtain ⟨g0, hg0⟩ := hcr 0 (by omega)
      obtain ⟨g1, hg1⟩ := hcr 1 (by omega)
      obtain ⟨g2, hg2⟩ := hcr 2 (by omega)
      obtain ⟨g3, hg3⟩ := hcr 3 (by omega)
      obtain ⟨g4, hg4⟩ := hcr 4 (by omega)
      obtain ⟨g5, hg5⟩ := hcr 5 (by omega)
      have HCr := Lib.hid hcr
      have HFr := Lib.hid hfr
      have r2 := hfr
      clear hcr hfr
      go_wp2_with fail
      obtain ⟨dd, hu, hdd⟩ := Try.structV
      refine ret_cells wr w.heap.size [.int .i64 5, .bool false, .int .i64 0, .string ⟨#[]⟩, .slice none 0 0, .slice ra K.length rcap] rfl Try.results42 rfl rfl hdd hu Try.sizeV HCr.out ?_
      have hKe : K.map strip = keepTo (·.1) (insN (·.1) ps.length ps) ps.length := by
        have h1 := keepTo_map strip (·.1) S S.length
        rw [HT.out] at h1
        rw [hsz] at h1
        have h2 := HR.out
        rw [hsz] at h2
        exact h2.trans h1
      refine ⟨_, rfl, ?_, setRow_below _ (Nat.le_refl _) _ _ _ (bstep hB2 hbw hB2.size)⟩
      have hfin := (HSl.out.keepB (w' := setRow wr w.heap.size 0 [.int .i64 5, .bool false, .int .i64 0, .string ⟨#[]⟩, .slice none 0 0, .slice ra K.length rcap]) (fun b hb _ => setRow_heap _ _ _ _ _ (by omega))).weaken (R' := fun b => w.heap.size ≤ b) (fun b hb => by omega)
      have hL := Lies.of_slices (k := 5) (n := 0) (b := false) (s := ⟨#[]⟩) (l := []) (la := none) (lc := 0) (cl := fun _ => #[]) wf5 wf0 empty_size (empty_sliceV _ _) hfin
      have hT : T.mkMap ps = .mk 5 false 0 ⟨#[]⟩ [] (K.map strip) := by unfold T.mkMap; rw [hKe]
      rw [hT]
      rw [List.length_map] at hL
      exact hL
end Go.Proofs.Ytnfmmgbghbaecaa

/-
  That the statements look at the program at all: their closed run.
-/
set_option linter.unusedVariables false
set_option linter.unusedSimpArgs false
namespace Go.Proofs.Ytnfmmgbghbaecaa
open Go.RowKit Go.Sort

def T.int (n : Int) : T := .mk 2 false n ⟨#[]⟩ [] []

/-- A result that lies in a variable as it is. -/
theorem ret_read {P : Program} {fn : Func} {R : Ending → World → Prop} {a : Act} {w : World} {p : Tmp} {ty : TypeId} {d : TypeDesc} (g : Nat) (cs : Array Value) (h : fn.results = #[.cell p ty]) (hdef : a.defers = []) (hp : a.tmps.getD p undef = .pointer (some ⟨g, 0, none⟩))
    (hd : (match d with | .struct _ | .array _ _ => true | _ => false) = true) (hu : P.underlying ty = some d) (hi : (P.info? ty).map (·.size) = some cs.size) (hc : ∀ i (h : i < cs.size), w.cell? ⟨g, i, none⟩ = some cs[i])
    (hR : R (.returned (.agg cs)) w) : bodyPost P fn R .ret a w := bodyPost_ret (results_cells h _ _ g cs d hd hu hp hc hi) hdef hR

theorem tInt_any (n : Int) (w : World) : Calls Try.prog 46 #[.int .i64 n] w fun e w' => e = .returned (.agg #[.int .i64 2, .bool false, .int .i64 n, .string ⟨#[]⟩, .slice none 0 0, .slice none 0 0]) ∧ Below w.heap.size w w' := by
  go_enter Try.func46, Try.ntmps46
  go_wp2_with fail
  obtain ⟨dd, hu, hdd⟩ := Try.structV
  refine ret_read w.heap.size #[.int .i64 2, .bool false, .int .i64 n, .string ⟨#[]⟩, .slice none 0 0, .slice none 0 0] Try.results46 rfl rfl hdd hu Try.sizeV (fun i hi => by rw [World.cell?_alloc_new]; exact Array.getElem?_eq_getElem hi) ?_
  exact ⟨rfl, (Below.refl _ _).alloc (Nat.le_refl _) _⟩

theorem empty_sliceP (w : World) (R : Nat → Prop) : SliceP w R [] none 0 (fun _ => #[]) := ⟨⟨by simp, by simp, fun _ => rfl, fun hp => absurd hp (by simp), by omega⟩, fun i hi => absurd hi (by simp), fun i hi => absurd hi (by simp), fun i hi => absurd hi (by simp)⟩
theorem wf2 : (Lit.int .i64 2).wf = true := by decide
theorem int_lies (w : World) (R : Nat → Prop) (n : Int) (hn : (Lit.int .i64 n).wf = true) : Lies w R (T.int n) #[.int .i64 2, .bool false, .int .i64 n, .string ⟨#[]⟩, .slice none 0 0, .slice none 0 0] :=
  Lies.of_slices wf2 hn empty_size (empty_sliceV w R) (empty_sliceP w R)

def kA : ByteArray := ⟨#[97]⟩
def kB : ByteArray := ⟨#[98]⟩
def three : List (ByteArray × T) := [(kB, T.int 1), (kA, T.int 2), (kB, T.int 3)]
def intCells (n : Int) : Array Value := #[.int .i64 2, .bool false, .int .i64 n, .string ⟨#[]⟩, .slice none 0 0, .slice none 0 0]
def threeCells : Array Value := #[.string ⟨#[98]⟩, .int .i64 2, .bool false, .int .i64 1, .string ⟨#[]⟩, .slice none 0 0, .slice none 0 0, .string ⟨#[97]⟩, .int .i64 2, .bool false, .int .i64 2, .string ⟨#[]⟩, .slice none 0 0, .slice none 0 0, .string ⟨#[98]⟩, .int .i64 2, .bool false, .int .i64 3, .string ⟨#[]⟩, .slice none 0 0, .slice none 0 0]

theorem three_cell (w : World) (t : TypeId) (j : Nat) (hj : j < 21) : (w.alloc (.cells threeCells t)).cell? ⟨w.heap.size, j, none⟩ = some (threeCells[j]'hj) := by
  rw [World.cell?_alloc_new]; exact Array.getElem?_eq_getElem hj

theorem three_slice (w : World) : SliceP (w.alloc (.cells threeCells 35)) (fun _ => True) three (some ⟨w.heap.size, 0, none⟩) 3 (fun i => intCells (i + 1)) := by
  refine ⟨⟨by decide, by simp [three], by simp, fun _ => ⟨_, _, rfl, trivial⟩, by omega⟩, fun i hi bl ol e => ?_, fun i hi => ?_, fun i hi => ?_⟩
  · simp only [Option.some.injEq, Addr.mk.injEq, and_true] at e
    obtain ⟨rfl, rfl⟩ := e
    have hi3 : i < 3 := hi
    intro j hj
    have hj7 : j < 7 := by simpa [intCells] using hj
    rw [Nat.zero_add, three_cell w _ (i * 7 + j) (by omega)]
    rcases (by omega : i = 0 ∨ i = 1 ∨ i = 2) with rfl | rfl | rfl <;> rcases (by omega : j = 0 ∨ j = 1 ∨ j = 2 ∨ j = 3 ∨ j = 4 ∨ j = 5 ∨ j = 6) with rfl | rfl | rfl | rfl | rfl | rfl | rfl <;> rfl
  · have hi3 : i < 3 := hi
    rcases (by omega : i = 0 ∨ i = 1 ∨ i = 2) with rfl | rfl | rfl <;> exact (by decide : (1 : Nat) ≤ 140737488355328)
  · have hi3 : i < 3 := hi
    rcases (by omega : i = 0 ∨ i = 1 ∨ i = 2) with rfl | rfl | rfl
    · exact int_lies _ _ 1 (by decide)
    · exact int_lies _ _ 2 (by decide)
    · exact int_lies _ _ 3 (by decide)

theorem three_kept : keepTo (·.1) (insN (·.1) three.length three) three.length = [(kA, T.int 2), (kB, T.int 3)] := by kernel_rfl
theorem three_map : T.mkMap three = .mk 5 false 0 ⟨#[]⟩ [] [(kA, T.int 2), (kB, T.int 3)] := by unfold T.mkMap; rw [three_kept]
theorem get_a : (T.mk 5 false 0 ⟨#[]⟩ [] [(kA, T.int 2), (kB, T.int 3)]).get kA = some (T.int 2) := by kernel_rfl
theorem get_b : (T.mk 5 false 0 ⟨#[]⟩ [] [(kA, T.int 2), (kB, T.int 3)]).get kB = some (T.int 3) := by kernel_rfl

set_option maxRecDepth 100000 in
set_option maxHeartbeats 1600000 in
theorem awake_any (w : World) : Calls Try.prog 17 #[] w fun e w' => e = .returned (.bool true) ∧ Below w.heap.size w w' := by
  go_enter Try.func17, Try.ntmps17
  go_wp2_with fail
  refine (tInt_any 1 _).mono ?_
  rintro e w1 ⟨rfl, hb1⟩
  go_wp2_with fail
  refine (tInt_any 2 _).mono ?_
  rintro e w2 ⟨rfl, hb2⟩
  go_wp2_with fail
  refine (tInt_any 3 _).mono ?_
  rintro e w3 ⟨rfl, hb3⟩
  go_wp2_with fail
  refine (tMap_few (three_slice w3) (by decide) (by decide) _ (Below.refl _ _)).mono ?_
  rintro e w4 ⟨ds, rfl, hL, hb4⟩
  rw [three_map] at hL
  have HL := Lib.hid hL
  obtain ⟨la, lc, ma, mc, rfl⟩ : ∃ la lc ma mc, ds = #[.int .i64 5, .bool false, .int .i64 0, .string ⟨#[]⟩, .slice la 0 lc, .slice ma 2 mc] := by cases hL; exact ⟨_, _, _, _, rfl⟩
  clear hL
  have GA := fun w' hw' => tGet_any HL.out kA w' hw'
  have GB := fun w' hw' => tGet_any HL.out kB w' hw'
  rw [get_a] at GA
  rw [get_b] at GB
  have HGA := Lib.hid GA
  have HGB := Lib.hid GB
  clear GA GB
  go_wp2_with fail
  have hbx := bbox (Below.refl w4.heap.size w4) (.cells #[.int .i64 5, .bool false, .int .i64 0, .string ⟨#[]⟩, .slice la 0 lc, .slice ma 2 mc] 25) (Nat.le_refl _)
  refine (HGA.out _ hbx).mono ?_
  rintro e w5 ⟨da, rfl, hA, hb5⟩
  obtain ⟨xa, ya, za, ua, rfl⟩ : ∃ la lc ma mc, da = #[.int .i64 2, .bool false, .int .i64 2, .string ⟨#[]⟩, .slice la 0 lc, .slice ma 0 mc] := by
    have : Lies w5 _ (T.mk 2 false 2 ⟨#[]⟩ [] []) da := hA
    cases this; exact ⟨_, _, _, _, rfl⟩
  have x0 : w5.cell? ⟨w4.heap.size, 0, none⟩ = some (.int .i64 5) := box_cell hb5 (by simp) rfl
  have x1 : w5.cell? ⟨w4.heap.size, 1, none⟩ = some (.bool false) := box_cell hb5 (by simp) rfl
  have x2 : w5.cell? ⟨w4.heap.size, 2, none⟩ = some (.int .i64 0) := box_cell hb5 (by simp) rfl
  have x3 : w5.cell? ⟨w4.heap.size, 3, none⟩ = some (.string ⟨#[]⟩) := box_cell hb5 (by simp) rfl
  have x4 : w5.cell? ⟨w4.heap.size, 4, none⟩ = some (.slice la 0 lc) := box_cell hb5 (by simp) rfl
  have x5 : w5.cell? ⟨w4.heap.size, 5, none⟩ = some (.slice ma 2 mc) := box_cell hb5 (by simp) rfl
  have hbA := Below.alloc (Below.refl w5.heap.size w5) (Nat.le_refl _) (.cells #[.int .i64 2, .bool false, .int .i64 2, .string ⟨#[]⟩, .slice xa 0 ya, .slice za 0 ua] 25)
  have y0 := cells_frame hbA x0
  have y1 := cells_frame hbA x1
  have y2 := cells_frame hbA x2
  have y3 := cells_frame hbA x3
  have y4 := cells_frame hbA x4
  have y5 := cells_frame hbA x5
  go_wp2_with fail
  have hb6 := bbox (bunbox hb5 (Nat.le_refl _) (by simp)) (.cells #[.int .i64 2, .bool false, .int .i64 2, .string ⟨#[]⟩, .slice xa 0 ya, .slice za 0 ua] 25) (by have := hb5.size; simp at this; omega)
  refine (HGB.out _ hb6).mono ?_
  rintro e w6 ⟨db, rfl, hB, hb7⟩
  obtain ⟨xb, yb, zb, ub, rfl⟩ : ∃ la lc ma mc, db = #[.int .i64 2, .bool false, .int .i64 3, .string ⟨#[]⟩, .slice la 0 lc, .slice ma 0 mc] := by
    have : Lies w6 _ (T.mk 2 false 3 ⟨#[]⟩ [] []) db := hB
    cases this; exact ⟨_, _, _, _, rfl⟩
  have hbB := Below.alloc (Below.refl w6.heap.size w6) (Nat.le_refl _) (.cells #[.int .i64 2, .bool false, .int .i64 3, .string ⟨#[]⟩, .slice xb 0 yb, .slice zb 0 ub] 25)
  have z5 := cells_frame hbB (cells_frame hb7 y5)
  have a2 : w6.cell? ⟨w5.heap.size, 2, none⟩ = some (.int .i64 2) := box_cell hb7 (by simp) rfl
  have a3 := cells_frame hbB a2
  go_wp2_with fail
  go_ret
  have c3 := bstep (bstep hb1 hb2 hb1.size) hb3 (by have := hb1.size; have := hb2.size; omega)
  have s3 := c3.size
  have c4 := bstep (bbox c3 (.cells threeCells 35) s3) hb4 (by simp; omega)
  have c6 := bstep c4 hb6 c4.size
  have c7 := bstep c6 hb7 c6.size
  exact ⟨rfl, bbox c7 _ c7.size⟩
end Go.Proofs.Ytnfmmgbghbaecaa
