/-
  Package tree's Map, of few pairs.
-/
import Derived.Test.YtlniokpekcoodaaGreatDoorMap
import Derived.Test.YtlniokpekcoodaaGreatDoorBareM
import Derived.Test.YtlniokpekcoodaaGreatDoorVals
import Derived.Orders
set_option linter.unusedVariables false
set_option linter.unusedSimpArgs false
namespace Go.Proofs.YtlniokpekcoodaaGreatDoor
open Go.RowKit Go.Sort

theorem qlist_lies {w : World} {R : Nat → Prop} {ps : List (ByteArray × T)} {a : Option Addr} {cap : Nat} {cm : Nat → Array Value} (h : SliceP w R ps a cap cm) {q : Q} (hq : q ∈ qlist ps cm) : Lies w R q.2.1 q.2.2 ∧ q.1.size ≤ 140737488355328 := by
  obtain ⟨i, hi, rfl⟩ := List.getElem_of_mem hq
  have hi' : i < ps.length := by simpa [qlist] using hi
  rw [qlist_get]
  exact ⟨h.each i hi', h.keys i hi'⟩

theorem wf5 : (Lit.int .i64 5).wf = true := by decide
theorem wf0 : (Lit.int .i64 0).wf = true := by decide
theorem empty_size : (⟨#[]⟩ : ByteArray).size ≤ 140737488355328 := Nat.zero_le _
theorem empty_sliceV (w : World) (R : Nat → Prop) : SliceV w R [] none 0 (fun _ => #[]) := ⟨⟨by simp, by simp, fun _ => rfl, fun hp => absurd hp (by simp), by omega⟩, fun i hi => absurd hi (by simp), fun i hi => absurd hi (by simp)⟩

set_option maxRecDepth 100000 in
set_option maxHeartbeats 1600000 in
theorem tMap_few {w0 : World} {R : Nat → Prop} {ps : List (ByteArray × T)} {a : Option Addr} {cap : Nat} {cm : Nat → Array Value} (h : SliceP w0 R ps a cap cm) (hp : 0 < ps.length) (hp2 : ps.length < 20) (w : World) (hw : Below w0.heap.size w0 w) :
    Calls Tryz.prog 25 #[.slice a ps.length cap] w (MadeMap w ps) := by
  have hW := h.later hw
  have h1 := hW.later (Below.alloc (Below.refl w.heap.size w) (Nat.le_refl _) (.cells #[.int .i64 0, .bool false, .int .i64 0, .string ⟨#[]⟩, .slice none 0 0, .slice none 0 0] 25))
  have HC := Lib.hid (sCloneP_any h1 hp)
  have hx := h.hdr.big
  have H := Lib.hid h
  clear h hW h1
  obtain ⟨i0, hi, hz0, hz1, hz2⟩ := info_parts Tryz.infoP
  go_enter Tryz.func25, Tryz.ntmps25
  go_wp2_with fail
  refine HC.out.mono ?_
  rintro e w1 ⟨g, cap1, rfl, hge, hgl, hO, hB⟩
  have HS := Lib.hid (sort_few _ g _ cap1 _ _ hO hp2 hp)
  clear hO
  go_wp2_with fail
  refine HS.out.mono ?_
  rintro e w2 ⟨rfl, hO2, hG2⟩
  have hsz : (insN (fun x : Q => x.1) ps.length (qlist ps cm)).length = ps.length := hO2.len
  have hLS : ∀ q ∈ insN (fun x : Q => x.1) ps.length (qlist ps cm), Lies w0 R q.2.1 q.2.2 ∧ q.1.size ≤ 140737488355328 := fun q hq => qlist_lies H.out (mem_insN _ _ _ _ hq)
  have hstrip : (insN (fun x : Q => x.1) ps.length (qlist ps cm)).map strip = insN (·.1) ps.length ps := by
    have := insN_map strip (·.1) ps.length (qlist ps cm)
    rw [strip_qlist] at this
    exact this
  have hB2 : Below w.heap.size w w2 := (bunbox hB (Nat.le_refl _) (by simp)).grown hG2 (by have := hB.size; simp at this; omega) (by simp; simp at hge; omega)
  have hcell : ∀ i, i < 6 → ∃ u, w2.cell? ⟨w.heap.size, i, none⟩ = some u := fun i hi => ⟨_, by
    rw [World.cell?_of_block (hG2.block _ (by have := hB.size; simp at this; simp; omega) (by simp; simp at hge; omega))]
    exact box_cell hB (by simp) (Array.getElem?_eq_getElem (show i < 6 from hi))⟩
  have hfroz : ∀ j, w2.frozen? ⟨w.heap.size, j, none⟩ = false := fun j => by
    rw [World.frozen?_of_block (hG2.block _ (by have := hB.size; simp at this; simp; omega) (by simp; simp at hge; omega)), hB.frozen (p := ⟨w.heap.size, j, none⟩) (by simp), World.frozen?_alloc_new]
  have HFz := Lib.hid hfroz
  have hBw := bstep hw hB2 hw.size
  have hlt2 : w.heap.size < w2.heap.size := by have := hB.size; have := hG2.size; simp at *; omega
  have HO2 := Lib.hid hO2
  have HL := Lib.hid hLS
  have HT := Lib.hid hstrip
  have HCe := Lib.hid hcell
  clear hO2 hLS hstrip hcell hfroz hB hG2
  generalize hS : insN (fun x : Q => x.1) ps.length (qlist ps cm) = S at *
  clear hS HS
  go_wp2_with fail
  go_loopw [4, 13] (fun vk vi wr => ∃ (j : Nat) (K : List Q), vi = .int .i64 j ∧ KeptP w2.heap.size wr S j vk K ∧ Below w2.heap.size w2 wr) (fun _ vi _ => ps.length - (intOf vi).toNat)
  case atStart => exact ⟨0, [], rfl, ⟨World.ownsRow_nil w2 _ _ _, fun i hi => absurd hi (by simp), fun i hi => absurd hi (by simp), rfl, by omega⟩, Below.refl _ _⟩
  case round =>
    obtain ⟨j, K, rfl, hK, hbw⟩ := hrel
    have hj := hK.le
    have hbr := bstep hBw hbw (by have := hBw.size; omega)
    by_cases hjl : j < S.length
    · obtain ⟨k, b, m, s, la, ll, lc, ma, ml, mc, eq, r0, r1, r2, r3, r4, r5, r6⟩ := (HO2.out.kept hbw).row j hjl
      have hq := HL.out S[j] (List.getElem_mem _)
      have HK := Lib.hid hK
      clear hK
      have hl : decide ((j : Int) < (ps.length : Int)) = true := by simp; omega
      have e3 : IntKind.i64.wrap ((j : Int) + 1) = (j : Int) + 1 := IntWalk.i64_in _ (by omega)
      have e4 : (0 : Int) ≤ (j : Int) + 1 := by omega
      have e5 : ((j : Int) + 1).toNat = j + 1 := by omega
      by_cases hkeep : ∀ h : j + 1 < S.length, S[j + 1].1 ≠ S[j].1
      · have CP := Lib.hid (fun w hw => clonePair_any (w0 := w0) (p := strip S[j]) hq.1 (fun w hw => tClone_any hq.1 w hw) w hw)
        simp only [strip, eq] at CP
        have HKe := Lib.hid hkeep
        by_cases hlast : j + 1 = S.length
        focus
          have e2 : ((j : Int) + 1 == (ps.length : Int)) = true := by simp; omega
          clear hkeep
          go_wp2_with fail
          go_quiet (fail)
        rotate_left
        focus
          have e2 : ((j : Int) + 1 == (ps.length : Int)) = false := by simp; omega
          have hj1 : j + 1 < S.length := by omega
          have hj2 : (j : Int) + 1 < (ps.length : Int) := by omega
          have hj3 : j + 1 < ps.length := by omega
          have hne := str_ne (hkeep hj1)
          have hne2 : (S[j + 1].1.toList != S[j].1.toList) = true := by simp [bne, hne]
          obtain ⟨k', b', m', s', la', ll', lc', ma', ml', mc', eq', r0', r1', r2', r3', r4', r5', r6'⟩ := (HO2.out.kept hbw).row (j + 1) hj1
          have x0 := cells_frame (Below.alloc (Below.refl _ _) (Nat.le_refl _) (.cells #[.string S[j].1, .int .i64 k, .bool b, .int .i64 m, .string s, .slice la ll lc, .slice ma ml mc] 51)) r0'
          clear eq' r0' r1' r2' r3' r4' r5' r6'
          clear hkeep
          go_wp2_with fail
          go_quiet (fail)
        all_goals
          go_wp2_with fail
          refine (CP.out _ (bdrewN (bbox hbr _ hbr.size) _)).mono ?_
          rintro e w3 ⟨ds, rfl, hL, hb1⟩
          obtain ⟨d0, d1, d2, d3, d4, d4l, d4c, d5, d5l, d5c, rfl⟩ := hL.six
          have hbW := (bdrewN (bbox (Below.refl wr.heap.size wr) (.cells #[.string S[j].1, .int .i64 k, .bool b, .int .i64 m, .string s, .slice la ll lc, .slice ma ml mc] 51) (Nat.le_refl _)) nq).trans (hb1.mono (by simp))
          have hLw := hL.weaken (R' := fun b => wr.heap.size ≤ b) (fun b hb => by simp at hb; omega)
          have own2 := HK.out.own.kept (grown_of_below hbW none) (by cases u4.ownBlock <;> simp)
          have hKl := HK.out.len
          have hrs := hbr.size
          have hws := hbw.size
          have hw3 := hbW.size
          have hLw2 := Lib.hid hLw
          have hbW2 := Lib.hid hbW
          clear hLw hbW hL hb1
          go_wp2_with (at_builtin; refine wpList_append_own_at _ rfl (.tmp 34) (.tmp 37) 23 rfl w2.heap.size 51 i0 _ 7 104 Tryz.underlying23 hi hz0 hz1 hz2 rfl (by decide) _ _ _ rfl (own2.alloc _) ⟨w3.heap.size, 0, none⟩ 1 1 [.string S[j].1, .int .i64 d0, .bool d1, .int .i64 d2, .string d3, .slice d4 d4l d4c, .slice d5 d5l d5c] rfl rfl ?c1 ?c2 ?c3 ?c4 ?c5 ?_)
          case c1 => exact fun j u hu => lit_cells w3 _ _ j u hu
          case c2 =>
            intro u hu
            simp at hu
            rcases hu with rfl | rfl | rfl | rfl | rfl | rfl | rfl <;> rfl
          case c3 => unfold maxLen; omega
          case c4 => omega
          case c5 => simp; omega
          intro v4 w4 own4 hg4 hnil4 hat4
          have hK4 := HK.out.step hws hjl HKe.out hq.2 hbW2.out hLw2.out own4 hg4 (by simpa using hat4)
          have hb4 : Below w2.heap.size w2 w4 := ((bstep hbw hbW2.out hws).alloc (by omega) _).grown hg4 (by simp; omega) (fun k hk => (HK.out.own.lt k hk).1)
          have HK4 := Lib.hid hK4
          have hb4' := Lib.hid hb4
          clear hK4 hb4 own4 hg4 hnil4 hat4
          go_wp2_with fail
          go_roundw
          case rel => exact ⟨j + 1, _, by go_num, HK4.out, hb4'.out⟩
          case measure => simp [intOf]; omega
      · have hj1 : j + 1 < S.length := Classical.byContradiction fun hc => hkeep fun h1 => absurd h1 hc
        have he : S[j + 1].1 = S[j].1 := Classical.byContradiction fun hc => hkeep fun h1 => hc
        clear hkeep
        have hj3 : j + 1 < ps.length := by rw [← hsz]; exact hj1
        have HE := Lib.hid he
        clear he
        have hj2 : (j : Int) + 1 < (ps.length : Int) := by omega
        have e2 : ((j : Int) + 1 == (ps.length : Int)) = false := by simp; omega
        have hne : (S[j + 1].1.toList == S[j].1.toList) = true := by rw [HE.out]; simp
        have hne2 : (S[j + 1].1.toList != S[j].1.toList) = false := by rw [HE.out]; simp
        obtain ⟨k', b', m', s', la', ll', lc', ma', ml', mc', eq', r0', r1', r2', r3', r4', r5', r6'⟩ := (HO2.out.kept hbw).row (j + 1) hj1
        have x0 := cells_frame (Below.alloc (Below.refl _ _) (Nat.le_refl _) (.cells #[.string S[j].1, .int .i64 k, .bool b, .int .i64 m, .string s, .slice la ll lc, .slice ma ml mc] 51)) r0'
        clear eq' r0' r1' r2' r3' r4' r5' r6'
        go_wp2_with fail
        go_quiet (fail)
        go_wp2_with fail
        have hbn := bdrewN (bbox (Below.refl wr.heap.size wr) (.cells #[.string S[j].1, .int .i64 k, .bool b, .int .i64 m, .string s, .slice la ll lc, .slice ma ml mc] 51) (Nat.le_refl _)) nq
        go_roundw
        case rel => exact ⟨j + 1, K, by go_num, HK.out.skip hbn hj1 HE.out, bstep hbw hbn hbw.size⟩
        case measure => simp [intOf]; omega
    · obtain rfl : j = S.length := by omega
      have hKl := hK.len
      obtain ⟨ra, rcap, rcm, rfl, hS⟩ := hK.done (by omega)
      have hres := hK.res
      have HSl := Lib.hid hS
      have HR := Lib.hid hres
      clear hS hK hres
      have hl : decide ((S.length : Int) < (ps.length : Int)) = false := by simp; omega
      have hcr : ∀ i, i < 6 → ∃ u, wr.cell? ⟨w.heap.size, i, none⟩ = some u := fun i hi => by
        rw [hbw.cell (p := ⟨w.heap.size, i, none⟩) hlt2]
        exact HCe.out i hi
      have hfr : ∀ j, wr.frozen? ⟨w.heap.size, j, none⟩ = false := fun j => by rw [hbw.frozen (p := ⟨w.heap.size, j, none⟩) hlt2]; exact HFz.out j
      obtain ⟨g0, hg0⟩ := hcr 0 (by omega)
      obtain ⟨g1, hg1⟩ := hcr 1 (by omega)
      obtain ⟨g2, hg2⟩ := hcr 2 (by omega)
      obtain ⟨g3, hg3⟩ := hcr 3 (by omega)
      obtain ⟨g4, hg4⟩ := hcr 4 (by omega)
      obtain ⟨g5, hg5⟩ := hcr 5 (by omega)
      have HCr := Lib.hid hcr
      have HFr := Lib.hid hfr
      have r2 := hfr
      clear hcr hfr
      go_wp2_with fail
      obtain ⟨dd, hu, hdd⟩ := Tryz.structV
      refine ret_cells wr w.heap.size [.int .i64 5, .bool false, .int .i64 0, .string ⟨#[]⟩, .slice none 0 0, .slice ra K.length rcap] rfl Tryz.results25 rfl rfl hdd hu Tryz.sizeV HCr.out ?_
      have hKe : K.map strip = keepTo (·.1) (insN (·.1) ps.length ps) ps.length := by
        have h1 := keepTo_map strip (·.1) S S.length
        rw [HT.out] at h1
        rw [hsz] at h1
        have h2 := HR.out
        rw [hsz] at h2
        exact h2.trans h1
      refine ⟨_, rfl, ?_, setRow_below _ (Nat.le_refl _) _ _ _ (bstep hB2 hbw hB2.size)⟩
      have hfin := (HSl.out.keepB (w' := setRow wr w.heap.size 0 [.int .i64 5, .bool false, .int .i64 0, .string ⟨#[]⟩, .slice none 0 0, .slice ra K.length rcap]) (fun b hb _ => setRow_heap _ _ _ _ _ (by omega))).weaken (R' := fun b => w.heap.size ≤ b) (fun b hb => by omega)
      have hL := Lies.of_slices (k := 5) (n := 0) (b := false) (s := ⟨#[]⟩) (l := []) (la := none) (lc := 0) (cl := fun _ => #[]) wf5 wf0 empty_size (empty_sliceV _ _) hfin
      have hT : T.mkMap ps = .mk 5 false 0 ⟨#[]⟩ [] (K.map strip) := by unfold T.mkMap; rw [hKe]
      rw [hT]
      rw [List.length_map] at hL
      exact hL
end Go.Proofs.YtlniokpekcoodaaGreatDoor

/-
  That the statements look at the program at all: their closed run.
-/
set_option linter.unusedVariables false
set_option linter.unusedSimpArgs false
namespace Go.Proofs.YtlniokpekcoodaaGreatDoor
open Go.RowKit Go.Sort

def T.int (n : Int) : T := .mk 2 false n ⟨#[]⟩ [] []

/-- A result that lies in a variable as it is. -/
theorem ret_read {P : Program} {fn : Func} {R : Ending → World → Prop} {a : Act} {w : World} {p : Tmp} {ty : TypeId} {d : TypeDesc} (g : Nat) (cs : Array Value) (h : fn.results = #[.cell p ty]) (hdef : a.defers = []) (hp : a.tmps.getD p undef = .pointer (some ⟨g, 0, none⟩))
    (hd : (match d with | .struct _ | .array _ _ => true | _ => false) = true) (hu : P.underlying ty = some d) (hi : (P.info? ty).map (·.size) = some cs.size) (hc : ∀ i (h : i < cs.size), w.cell? ⟨g, i, none⟩ = some cs[i])
    (hR : R (.returned (.agg cs)) w) : bodyPost P fn R .ret a w := bodyPost_ret (results_cells h _ _ g cs d hd hu hp hc hi) hdef hR

theorem tInt_any (n : Int) (w : World) : Calls Tryz.prog 26 #[.int .i64 n] w fun e w' => e = .returned (.agg #[.int .i64 2, .bool false, .int .i64 n, .string ⟨#[]⟩, .slice none 0 0, .slice none 0 0]) ∧ Below w.heap.size w w' := by
  go_enter Tryz.func26, Tryz.ntmps26
  go_wp2_with fail
  obtain ⟨dd, hu, hdd⟩ := Tryz.structV
  refine ret_read w.heap.size #[.int .i64 2, .bool false, .int .i64 n, .string ⟨#[]⟩, .slice none 0 0, .slice none 0 0] Tryz.results26 rfl rfl hdd hu Tryz.sizeV (fun i hi => by rw [World.cell?_alloc_new]; exact Array.getElem?_eq_getElem hi) ?_
  exact ⟨rfl, (Below.refl _ _).alloc (Nat.le_refl _) _⟩

theorem empty_sliceP (w : World) (R : Nat → Prop) : SliceP w R [] none 0 (fun _ => #[]) := ⟨⟨by simp, by simp, fun _ => rfl, fun hp => absurd hp (by simp), by omega⟩, fun i hi => absurd hi (by simp), fun i hi => absurd hi (by simp), fun i hi => absurd hi (by simp)⟩
def kA : ByteArray := ⟨#[97]⟩
def kB : ByteArray := ⟨#[98]⟩
def three : List (ByteArray × T) := [(kB, T.int 1), (kA, T.int 2), (kB, T.int 3)]
def intCells (n : Int) : Array Value := #[.int .i64 2, .bool false, .int .i64 n, .string ⟨#[]⟩, .slice none 0 0, .slice none 0 0]
def threeCells : Array Value := #[.string ⟨#[98]⟩, .int .i64 2, .bool false, .int .i64 1, .string ⟨#[]⟩, .slice none 0 0, .slice none 0 0, .string ⟨#[97]⟩, .int .i64 2, .bool false, .int .i64 2, .string ⟨#[]⟩, .slice none 0 0, .slice none 0 0, .string ⟨#[98]⟩, .int .i64 2, .bool false, .int .i64 3, .string ⟨#[]⟩, .slice none 0 0, .slice none 0 0]

end Go.Proofs.YtlniokpekcoodaaGreatDoor

/-
  What package tree makes of plain things: nothing, a truth, a text, a list.
-/
set_option linter.unusedVariables false
set_option linter.unusedSimpArgs false
namespace Go.Proofs.YtlniokpekcoodaaGreatDoor
open Go.RowKit Go.Sort

theorem tNull_any (w : World) : Calls Tryz.prog 63 #[] w fun e w' => e = .returned (.agg #[.int .i64 0, .bool false, .int .i64 0, .string ⟨#[]⟩, .slice none 0 0, .slice none 0 0]) ∧ Below w.heap.size w w' := by
  go_enter Tryz.func63, Tryz.ntmps63
  go_wp2_with fail
  obtain ⟨dd, hu, hdd⟩ := Tryz.structV
  refine ret_read w.heap.size #[.int .i64 0, .bool false, .int .i64 0, .string ⟨#[]⟩, .slice none 0 0, .slice none 0 0] Tryz.results63 rfl rfl hdd hu Tryz.sizeV (fun i hi => by rw [World.cell?_alloc_new]; exact Array.getElem?_eq_getElem hi) ?_
  exact ⟨rfl, (Below.refl _ _).alloc (Nat.le_refl _) _⟩

def T.listOf (ts : List T) : T := .mk 4 false 0 ⟨#[]⟩ ts []
def MadeL (w : World) (ts : List T) (e : Ending) (w' : World) : Prop := ∃ ds, e = .returned (.agg ds) ∧ Lies w' (fun b => w.heap.size ≤ b) (T.listOf ts) ds ∧ Below w.heap.size w w'
end Go.Proofs.YtlniokpekcoodaaGreatDoor

/-
  A region that draws its order: what holds ahead, and is kept by whatever operation comes next, holds behind it.
-/
set_option linter.unusedVariables false
set_option linter.unusedSimpArgs false
namespace Go.Proofs.YtlniokpekcoodaaGreatDoor
open Go.RowKit

section
variable {P : Program} {ops : Array Oper} {Q : Exit → Act → World → Prop}

theorem count_set {l : Array Bool} {i : Nat} (hi : i < l.size) (h : l.getD i true = false) : (l.setIfInBounds i true).toList.count false + 1 = l.toList.count false := by
  have e : l[i] = false := by simpa [Array.getD, hi] using h
  rw [Array.toList_setIfInBounds]
  have h1 : i < l.toList.length := by simpa using hi
  have := List.count_set (a := true) (b := false) (l := l.toList) (i := i) h1
  have hg : l.toList[i] = false := by simpa using e
  rw [this, hg]
  have : 0 < l.toList.count false := List.count_pos_iff.2 (by
    have hm : l.toList[i] ∈ l.toList := List.getElem_mem h1
    rwa [hg] at hm)
  have e1 : (if ((false : Bool) == false) = true then 1 else 0) = 1 := rfl
  have e2 : (if ((true : Bool) == false) = true then 1 else 0) = 0 := rfl
  rw [e1, e2]
  omega

theorem getD_set {l : Array Bool} {i : Nat} (hi : i < l.size) (k : Nat) : (l.setIfInBounds i true).getD k false = if k = i then true else l.getD k false := by
  by_cases h : k = i
  · subst h
    simp [Array.getD, hi]
  · rw [if_neg h, getD_set_ne false (fun e => h e.symm)]

theorem wpAny_inv (Inv : (Nat → Bool) → Act → World → Prop)
    (hs : ∀ d a w i o, ops[i]? = some o → d i = false → (∀ e ∈ o.after, Region.binds .any e = true → d e.on = true) → Inv d a w → wpOp P ops Q i (Inv fun k => if k = i then true else d k) a w)
    (he : ∀ l a w, l.size = ops.size → Inv (fun k => l.getD k false) a w → Region.ready .any ops l = [] → Q .normal a w) :
    ∀ (fuel : Nat) (l : Array Bool) (a : Act) (w : World), l.size = ops.size → l.toList.count false ≤ fuel → Inv (fun k => l.getD k false) a w → wpAny P .any ops Q fuel l a w
  | 0, l, a, w, hz, hc, h => by
    have hr : Region.ready .any ops l = [] := by
      apply List.eq_nil_iff_forall_not_mem.2
      intro j hj
      obtain ⟨h0, o, ho, _⟩ := mem_ready.1 hj
      have hj2 : j < l.size := by rw [hz]; exact (Array.getElem?_eq_some_iff.1 ho).1
      have e : l[j] = false := by simpa [Array.getD, hj2] using h0
      have : 0 < l.toList.count false := List.count_pos_iff.2 (by
        have : l.toList[j]'(by simpa using hj2) = false := by simpa using e
        rw [← this]; exact List.getElem_mem _)
      omega
    exact ⟨hr, he l a w hz h hr⟩
  | fuel + 1, l, a, w, hz, hc, h => by
    refine ⟨he l a w hz h, fun i hi => ?_⟩
    obtain ⟨h0, o, ho, hd⟩ := mem_ready.1 hi
    have hi2 : i < l.size := by rw [hz]; exact (Array.getElem?_eq_some_iff.1 ho).1
    have h0' : l.getD i false = false := by simpa [Array.getD, hi2] using h0
    refine wpOp_mono (fun a' w' hk => ?_) (hs _ a w i o ho h0' hd h)
    refine wpAny_inv Inv hs he fuel _ a' w' (by simpa using hz) (by have := count_set hi2 h0; omega) ?_
    have : (fun k => (l.setIfInBounds i true).getD k false) = fun k => if k = i then true else l.getD k false := funext fun k => getD_set hi2 k
    rw [this]
    exact hk

theorem ready_nil {l : Array Bool} (hz : l.size = ops.size) (hlt : ∀ (i : Nat) (o : Oper), ops[i]? = some o → ∀ e ∈ o.after, e.on < i) (h : Region.ready .any ops l = []) : ∀ i, i < ops.size → l.getD i false = true := by
  intro i
  induction i using Nat.strongRecOn with
  | ind i ih =>
    intro hi
    cases hd : l.getD i false with
    | true => rfl
    | false =>
      have hi2 : i < l.size := by omega
      have h0 : l.getD i true = false := by simpa [Array.getD, hi2] using hd
      have hm : i ∈ Region.ready .any ops l := mem_ready.2 ⟨h0, ops[i], Array.getElem?_eq_getElem hi, fun e he _ => ih e.on (hlt i _ (Array.getElem?_eq_getElem hi) e he) (by have := hlt i _ (Array.getElem?_eq_getElem hi) e he; omega)⟩
      rw [h] at hm
      cases hm

/-- THE RULE: kept by whatever operation may come next, an invariant holds where all are done. -/
theorem wp_region_inv {id : Nat} {a : Act} {w : World} (Inv : (Nat → Bool) → Act → World → Prop) (hm : P.follows .mixedOrders = true) (hlt : (List.range ops.size).all (fun i => ((ops[i]?).map fun o => o.after.all fun e => decide (e.on < i)).getD true) = true)
    (h0 : Inv (fun _ => false) a w.drew)
    (hs : ∀ d a w i o, ops[i]? = some o → d i = false → (∀ e ∈ o.after, Region.binds .any e = true → d e.on = true) → Inv d a w → wpOp P ops Q i (Inv fun k => if k = i then true else d k) a w)
    (he : ∀ d a w, (∀ i, i < ops.size → d i = true) → Inv d a w → Q .normal a w) : (Code.region id ops true).wp P Q a w := by
  refine wp_region_any hm (wpAny_inv Inv hs (fun l a w hz hi hr => he _ a w (ready_nil hz (fun i o ho e hee => ?_) hr) hi) _ _ a _ (by simp) (by simp) ?_)
  · have hi : i < ops.size := (Array.getElem?_eq_some_iff.1 ho).1
    have h1 := List.all_eq_true.1 hlt i (List.mem_range.2 hi)
    rw [ho] at h1
    simp only [Option.map_some, Option.getD_some] at h1
    have := (Array.all_eq_true_iff_forall_mem.1 h1) e hee
    simpa using this
  · have : (fun k => (Array.replicate ops.size false).getD k false) = fun _ => false := funext fun k => by
      simp [Array.getD]
    rw [this]
    exact h0

theorem wpOp_of {i : Nat} {o : Oper} {a : Act} {w : World} {K : Act → World → Prop} (ho : ops[i]? = some o) (hg : o.guard = none) (h : o.wp P a w K Q) : wpOp P ops Q i K a w := by
  unfold wpOp
  rw [ho]
  have hw : Region.wanted o (yielded ops a.tmps) = true := by simp [Region.wanted, hg]
  simp only [hw, if_true]
  exact .inl h

/-- .. the invariant knowing the act at its head. -/
theorem wp_region_keeps {id : Nat} {a : Act} {w : World} (Inv : Act → (Nat → Bool) → Act → World → Prop) (hm : P.follows .mixedOrders = true) (hlt : (List.range ops.size).all (fun i => ((ops[i]?).map fun o => o.after.all fun e => decide (e.on < i)).getD true) = true)
    (h0 : Inv a (fun _ => false) a w.drew)
    (hs : ∀ d b w i o (K : Act → World → Prop), ops[i]? = some o → d i = false → (∀ e ∈ o.after, Region.binds .any e = true → d e.on = true) → Inv a d b w → (∀ b' w', Inv a (fun k => if k = i then true else d k) b' w' → K b' w') → wpOp P ops Q i K b w)
    (he : ∀ d b w, (∀ i, i < ops.size → d i = true) → Inv a d b w → Q .normal b w) : (Code.region id ops true).wp P Q a w :=
  wp_region_inv (Inv a) hm hlt h0 (fun d b w i o h1 h2 h3 h4 => hs d b w i o _ h1 h2 h3 h4 fun _ _ h => h) he
end

/-- The same act, but for these slots. -/
structure Agree (L : List Tmp) (a b : Act) : Prop where
  size : b.tmps.size = a.tmps.size
  defers : b.defers = a.defers
  slot : ∀ t, t ∉ L → b.tmps[t]? = a.tmps[t]?
theorem Agree.refl (L : List Tmp) (a : Act) : Agree L a a := ⟨rfl, rfl, fun _ _ => rfl⟩
theorem Agree.put {L : List Tmp} {a b : Act} (h : Agree L a b) {t : Tmp} (ht : t ∈ L) (v : Value) : Agree L a (b.put (some t) v) :=
  ⟨by simp [Act.put, h.size], h.defers, fun s hs => by
    have hne : t ≠ s := fun e => hs (e ▸ ht)
    rw [← h.slot s hs]
    simp [Act.put, Array.getElem?_setIfInBounds_ne hne]⟩
theorem Agree.none {L : List Tmp} {a b : Act} (h : Agree L a b) (v : Value) : Agree L a (b.put Option.none v) := h
/-- What a slot holds. -/
def sl (a : Act) (t : Tmp) : Value := a.tmps[t]?.getD undef
theorem sl_eq {a : Act} {t : Tmp} (ht : t < a.tmps.size) (v : Value) : sl (a.put (some t) v) t = v := by
  simp [Act.put, sl, Array.getElem?_setIfInBounds_self_of_lt ht]
theorem sl_ne {a : Act} {t s : Tmp} (h : t ≠ s) (v : Value) : sl (a.put (some t) v) s = sl a s := by
  simp [Act.put, sl, Array.getElem?_setIfInBounds_ne h]
theorem size_put (a : Act) (t : Option Tmp) (v : Value) : (a.put t v).tmps.size = a.tmps.size := by
  cases t <;> simp [Act.put]
/-- The act is the first one, with its slots laid. -/
theorem Agree.act {L : List Tmp} {a b : Act} (h : Agree L a b) (hL : ∀ t ∈ L, t < a.tmps.size) : b = L.foldl (fun c t => c.put (some t) (sl b t)) a := by
  have key : ∀ (M : List Tmp) (c : Act), c.tmps.size = a.tmps.size → c.defers = b.defers → (∀ t ∈ M, t < a.tmps.size) → (∀ t, t ∉ M → b.tmps[t]? = c.tmps[t]?) → b = M.foldl (fun c t => c.put (some t) (sl b t)) c := by
    intro M
    induction M with
    | nil =>
      intro c hs hd _ hc
      obtain ⟨ct, cd⟩ := c
      obtain ⟨bt, bd⟩ := b
      have e1 : bt = ct := Array.ext_getElem? fun i => hc i (by simp)
      have e2 : cd = bd := hd
      simp [e1, e2]
    | cons t M ih =>
      intro c hs hd hlt hc
      rw [List.foldl_cons]
      have ht : t < c.tmps.size := by rw [hs]; exact hlt t (by simp)
      refine ih _ (by simp [Act.put, hs]) hd (fun s hsM => hlt s (by simp [hsM])) fun s hsM => ?_
      by_cases e : t = s
      · subst e
        have hb : t < b.tmps.size := by rw [h.size]; exact hlt t (by simp)
        simp [Act.put, sl, Array.getElem?_setIfInBounds_self_of_lt ht, Array.getElem?_eq_getElem hb]
      · simp only [Act.put, Array.getElem?_setIfInBounds_ne e]
        exact hc s (by simp [hsM, Ne.symm e])
  exact key L a rfl h.defers.symm hL h.slot

end Go.Proofs.YtlniokpekcoodaaGreatDoor
