/-
  Package tree's Map, of few pairs.
-/
import Derived.Test.YthjdeckdklhphaaGreatDoorMap
set_option linter.unusedVariables false
set_option linter.unusedSimpArgs false
namespace Go.Proofs.YthjdeckdklhphaaGreatDoor
open Go.RowKit Go.Sort

theorem qlist_lies {w : World} {R : Nat → Prop} {ps : List (ByteArray × T)} {a : Option Addr} {cap : Nat} {cm : Nat → Array Value} (h : SliceP w R ps a cap cm) {q : Q} (hq : q ∈ qlist ps cm) : Lies w R q.2.1 q.2.2 ∧ q.1.size ≤ 140737488355328 := by
  obtain ⟨i, hi, rfl⟩ := List.getElem_of_mem hq
  have hi' : i < ps.length := by simpa [qlist] using hi
  rw [qlist_get]
  exact ⟨h.each i hi', h.keys i hi'⟩

theorem wf5 : (Lit.int .i64 5).wf = true := by decide
theorem wf0 : (Lit.int .i64 0).wf = true := by decide
theorem empty_size : (⟨#[]⟩ : ByteArray).size ≤ 140737488355328 := Nat.zero_le _
theorem empty_sliceV (w : World) (R : Nat → Prop) : SliceV w R [] none 0 (fun _ => #[]) := ⟨⟨by simp, by simp, fun _ => rfl, fun hp => absurd hp (by simp), by omega⟩, fun i hi => absurd hi (by simp), fun i hi => absurd hi (by simp)⟩

set_option maxRecDepth 100000 in
set_option maxHeartbeats 1600000 in
theorem tMap_few {w0 : World} {R : Nat → Prop} {ps : List (ByteArray × T)} {a : Option Addr} {cap : Nat} {cm : Nat → Array Value} (h : SliceP w0 R ps a cap cm) (hp : 0 < ps.length) (hp2 : ps.length < 20) (w : World) (hw : Below w0.heap.size w0 w) :
    Calls Tryz.prog 71 #[.slice a ps.length cap] w (MadeMap w ps) := by
  have hW := h.later hw
  have h1 := hW.later (Below.alloc (Below.refl w.heap.size w) (Nat.le_refl _) (.cells #[.int .i64 0, .bool false, .int .i64 0, .string ⟨#[]⟩, .slice none 0 0, .slice none 0 0] 28))
  have HC := Lib.hid (sCloneP_any h1 hp)
  have hx := h.hdr.big
  have H := Lib.hid h
  clear h hW h1
  obtain ⟨i0, hi, hz0, hz1, hz2⟩ := info_parts Tryz.infoP
  go_enter Tryz.func71, Tryz.ntmps71
  go_wp2_with fail
  refine HC.out.mono ?_
  rintro e w1 ⟨g, cap1, rfl, hge, hgl, hO, hB⟩
  have HS := Lib.hid (sort_few _ g _ cap1 _ _ hO hp2 hp)
  clear hO
  go_wp2_with fail
  refine HS.out.mono ?_
  rintro e w2 ⟨rfl, hO2, hG2⟩
  have hsz : (insN (fun x : Q => x.1) ps.length (qlist ps cm)).length = ps.length := hO2.len
  have hLS : ∀ q ∈ insN (fun x : Q => x.1) ps.length (qlist ps cm), Lies w0 R q.2.1 q.2.2 ∧ q.1.size ≤ 140737488355328 := fun q hq => qlist_lies H.out (mem_insN _ _ _ _ hq)
  have hstrip : (insN (fun x : Q => x.1) ps.length (qlist ps cm)).map strip = insN (·.1) ps.length ps := by
    have := insN_map strip (·.1) ps.length (qlist ps cm)
    rw [strip_qlist] at this
    exact this
  have hB2 : Below w.heap.size w w2 := (bunbox hB (Nat.le_refl _) (by simp)).grown hG2 (by have := hB.size; simp at this; omega) (by simp; simp at hge; omega)
  have hcell : ∀ i, i < 6 → ∃ u, w2.cell? ⟨w.heap.size, i, none⟩ = some u := fun i hi => ⟨_, by
    rw [World.cell?_of_block (hG2.block _ (by have := hB.size; simp at this; simp; omega) (by simp; simp at hge; omega))]
    exact box_cell hB (by simp) (Array.getElem?_eq_getElem (show i < 6 from hi))⟩
  have hfroz : ∀ j, w2.frozen? ⟨w.heap.size, j, none⟩ = false := fun j => by
    rw [World.frozen?_of_block (hG2.block _ (by have := hB.size; simp at this; simp; omega) (by simp; simp at hge; omega)), hB.frozen (p := ⟨w.heap.size, j, none⟩) (by simp), World.frozen?_alloc_new]
  have HFz := Lib.hid hfroz
  have hBw := bstep hw hB2 hw.size
  have hlt2 : w.heap.size < w2.heap.size := by have := hB.size; have := hG2.size; simp at *; omega
  have HO2 := Lib.hid hO2
  have HL := Lib.hid hLS
  have HT := Lib.hid hstrip
  have HCe := Lib.hid hcell
  clear hO2 hLS hstrip hcell hfroz hB hG2
  generalize hS : insN (fun x : Q => x.1) ps.length (qlist ps cm) = S at *
  clear hS HS
  go_wp2_with fail
  go_loopw [4, 13] (fun vk vi wr => ∃ (j : Nat) (K : List Q), vi = .int .i64 j ∧ KeptP w2.heap.size wr S j vk K ∧ Below w2.heap.size w2 wr) (fun _ vi _ => ps.length - (intOf vi).toNat)
  case atStart => exact ⟨0, [], rfl, ⟨World.ownsRow_nil w2 _ _ _, fun i hi => absurd hi (by simp), fun i hi => absurd hi (by simp), rfl, by omega⟩, Below.refl _ _⟩
  case round =>
    obtain ⟨j, K, rfl, hK, hbw⟩ := hrel
    have hj := hK.le
    have hbr := bstep hBw hbw (by have := hBw.size; omega)
    by_cases hjl : j < S.length
    · obtain ⟨k, b, m, s, la, ll, lc, ma, ml, mc, eq, r0, r1, r2, r3, r4, r5, r6⟩ := (HO2.out.kept hbw).row j hjl
      have hq := HL.out S[j] (List.getElem_mem _)
      have HK := Lib.hid hK
      clear hK
      have hl : decide ((j : Int) < (ps.length : Int)) = true := by simp; omega
      have e3 : IntKind.i64.wrap ((j : Int) + 1) = (j : Int) + 1 := IntWalk.i64_in _ (by omega)
      have e4 : (0 : Int) ≤ (j : Int) + 1 := by omega
      have e5 : ((j : Int) + 1).toNat = j + 1 := by omega
      by_cases hkeep : ∀ h : j + 1 < S.length, S[j + 1].1 ≠ S[j].1
      · have CP := Lib.hid (fun w hw => clonePair_any (w0 := w0) (p := strip S[j]) hq.1 (fun w hw => tClone_any hq.1 w hw) w hw)
        simp only [strip, eq] at CP
        have HKe := Lib.hid hkeep
        by_cases hlast : j + 1 = S.length
        focus
          have e2 : ((j : Int) + 1 == (ps.length : Int)) = true := by simp; omega
          clear hkeep
          go_wp2_with fail
          go_quiet (fail)
        rotate_left
        focus
          have e2 : ((j : Int) + 1 == (ps.length : Int)) = false := by simp; omega
          have hj1 : j + 1 < S.length := by omega
          have hj2 : (j : Int) + 1 < (ps.length : Int) := by omega
          have hj3 : j + 1 < ps.length := by omega
          have hne := str_ne (hkeep hj1)
          have hne2 : (S[j + 1].1.toList != S[j].1.toList) = true := by simp [bne, hne]
          obtain ⟨k', b', m', s', la', ll', lc', ma', ml', mc', eq', r0', r1', r2', r3', r4', r5', r6'⟩ := (HO2.out.kept hbw).row (j + 1) hj1
          have x0 := cells_frame (Below.alloc (Below.refl _ _) (Nat.le_refl _) (.cells #[.string S[j].1, .int .i64 k, .bool b, .int .i64 m, .string s, .slice la ll lc, .slice ma ml mc] 48)) r0'
          clear eq' r0' r1' r2' r3' r4' r5' r6'
          clear hkeep
          go_wp2_with fail
          go_quiet (fail)
        all_goals
          go_wp2_with fail
          refine (CP.out _ (bdrewN (bbox hbr _ hbr.size) _)).mono ?_
          rintro e w3 ⟨ds, rfl, hL, hb1⟩
          obtain ⟨d0, d1, d2, d3, d4, d4l, d4c, d5, d5l, d5c, rfl⟩ := hL.six
          have hbW := (bdrewN (bbox (Below.refl wr.heap.size wr) (.cells #[.string S[j].1, .int .i64 k, .bool b, .int .i64 m, .string s, .slice la ll lc, .slice ma ml mc] 48) (Nat.le_refl _)) nq).trans (hb1.mono (by simp))
          have hLw := hL.weaken (R' := fun b => wr.heap.size ≤ b) (fun b hb => by simp at hb; omega)
          have own2 := HK.out.own.kept (grown_of_below hbW none) (by cases u4.ownBlock <;> simp)
          have hKl := HK.out.len
          have hrs := hbr.size
          have hws := hbw.size
          have hw3 := hbW.size
          have hLw2 := Lib.hid hLw
          have hbW2 := Lib.hid hbW
          clear hLw hbW hL hb1
          go_wp2_with (at_builtin; refine wpList_append_own_at _ rfl (.tmp 34) (.tmp 37) 26 rfl w2.heap.size 48 i0 _ 7 104 Tryz.underlying26 hi hz0 hz1 hz2 rfl (by decide) _ _ _ rfl (own2.alloc _) ⟨w3.heap.size, 0, none⟩ 1 1 [.string S[j].1, .int .i64 d0, .bool d1, .int .i64 d2, .string d3, .slice d4 d4l d4c, .slice d5 d5l d5c] rfl rfl ?c1 ?c2 ?c3 ?c4 ?c5 ?_)
          case c1 => exact fun j u hu => lit_cells w3 _ _ j u hu
          case c2 =>
            intro u hu
            simp at hu
            rcases hu with rfl | rfl | rfl | rfl | rfl | rfl | rfl <;> rfl
          case c3 => unfold maxLen; omega
          case c4 => omega
          case c5 => simp; omega
          intro v4 w4 own4 hg4 hnil4 hat4
          have hK4 := HK.out.step hws hjl HKe.out hq.2 hbW2.out hLw2.out own4 hg4 (by simpa using hat4)
          have hb4 : Below w2.heap.size w2 w4 := ((bstep hbw hbW2.out hws).alloc (by omega) _).grown hg4 (by simp; omega) (fun k hk => (HK.out.own.lt k hk).1)
          have HK4 := Lib.hid hK4
          have hb4' := Lib.hid hb4
          clear hK4 hb4 own4 hg4 hnil4 hat4
          go_wp2_with fail
          go_roundw
          case rel => exact ⟨j + 1, _, by go_num, HK4.out, hb4'.out⟩
          case measure => simp [intOf]; omega
      · have hj1 : j + 1 < S.length := Classical.byContradiction fun hc => hkeep fun h1 => absurd h1 hc
        have he : S[j + 1].1 = S[j].1 := Classical.byContradiction fun hc => hkeep fun h1 => hc
        clear hkeep
        have hj3 : j + 1 < ps.length := by rw [← hsz]; exact hj1
        have HE := Lib.hid he
        clear he
        have hj2 : (j : Int) + 1 < (ps.length : Int) := by omega
        have e2 : ((j : Int) + 1 == (ps.length : Int)) = false := by simp; omega
        have hne : (S[j + 1].1.toList == S[j].1.toList) = true := by rw [HE.out]; simp
        have hne2 : (S[j + 1].1.toList != S[j].1.toList) = false := by rw [HE.out]; simp
        obtain ⟨k', b', m', s', la', ll', lc', ma', ml', mc', eq', r0', r1', r2', r3', r4', r5', r6'⟩ := (HO2.out.kept hbw).row (j + 1) hj1
        have x0 := cells_frame (Below.alloc (Below.refl _ _) (Nat.le_refl _) (.cells #[.string S[j].1, .int .i64 k, .bool b, .int .i64 m, .string s, .slice la ll lc, .slice ma ml mc] 48)) r0'
        clear eq' r0' r1' r2' r3' r4' r5' r6'
        go_wp2_with fail
        go_quiet (fail)
        go_wp2_with fail
        have hbn := bdrewN (bbox (Below.refl wr.heap.size wr) (.cells #[.string S[j].1, .int .i64 k, .bool b, .int .i64 m, .string s, .slice la ll lc, .slice ma ml mc] 48) (Nat.le_refl _)) nq
        go_roundw
        case rel => exact ⟨j + 1, K, by go_num, HK.out.skip hbn hj1 HE.out, bstep hbw hbn hbw.size⟩
        case measure => simp [intOf]; omega
    · obtain rfl : j = S.length := by omega
      have hKl := hK.len
      obtain ⟨ra, rcap, rcm, rfl, hS⟩ := hK.done (by omega)
      have hres := hK.res
      have HSl := Lib.hid hS
      have HR := Lib.hid hres
      clear hS hK hres
      have hl : decide ((S.length : Int) < (ps.length : Int)) = false := by simp; omega
      have hcr : ∀ i, i < 6 → ∃ u, wr.cell? ⟨w.heap.size, i, none⟩ = some u := fun i hi => by
        rw [hbw.cell (p := ⟨w.heap.size, i, none⟩) hlt2]
        exact HCe.out i hi
      have hfr : ∀ j, wr.frozen? ⟨w.heap.size, j, none⟩ = false := fun j => by rw [hbw.frozen (p := ⟨w.heap.size, j, none⟩) hlt2]; exact HFz.out j
      obtain ⟨g0, hg0⟩ := hcr 0 (by omega)
      obtain ⟨g1, hg1⟩ := hcr 1 (by omega)
      obtain ⟨g2, hg2⟩ := hcr 2 (by omega)
      obtain ⟨g3, hg3⟩ := hcr 3 (by omega)
      obtain ⟨g4, hg4⟩ := hcr 4 (by omega)
      obtain ⟨g5, hg5⟩ := hcr 5 (by omega)
      have HCr := Lib.hid hcr
      have HFr := Lib.hid hfr
      have r2 := hfr
      clear hcr hfr
      go_wp2_with fail
      obtain ⟨dd, hu, hdd⟩ := Tryz.structV
      refine ret_cells wr w.heap.size [.int .i64 5, .bool false, .int .i64 0, .string ⟨#[]⟩, .slice none 0 0, .slice ra K.length rcap] rfl Tryz.results71 rfl rfl hdd hu Tryz.sizeV HCr.out ?_
      have hKe : K.map strip = keepTo (·.1) (insN (·.1) ps.length ps) ps.length := by
        have h1 := keepTo_map strip (·.1) S S.length
        rw [HT.out] at h1
        rw [hsz] at h1
        have h2 := HR.out
        rw [hsz] at h2
        exact h2.trans h1
      refine ⟨_, rfl, ?_, setRow_below _ (Nat.le_refl _) _ _ _ (bstep hB2 hbw hB2.size)⟩
      have hfin := (HSl.out.keepB (w' := setRow wr w.heap.size 0 [.int .i64 5, .bool false, .int .i64 0, .string ⟨#[]⟩, .slice none 0 0, .slice ra K.length rcap]) (fun b hb _ => setRow_heap _ _ _ _ _ (by omega))).weaken (R' := fun b => w.heap.size ≤ b) (fun b hb => by omega)
      have hL := Lies.of_slices (k := 5) (n := 0) (b := false) (s := ⟨#[]⟩) (l := []) (la := none) (lc := 0) (cl := fun _ => #[]) wf5 wf0 empty_size (empty_sliceV _ _) hfin
      have hT : T.mkMap ps = .mk 5 false 0 ⟨#[]⟩ [] (K.map strip) := by unfold T.mkMap; rw [hKe]
      rw [hT]
      rw [List.length_map] at hL
      exact hL
end Go.Proofs.YthjdeckdklhphaaGreatDoor
