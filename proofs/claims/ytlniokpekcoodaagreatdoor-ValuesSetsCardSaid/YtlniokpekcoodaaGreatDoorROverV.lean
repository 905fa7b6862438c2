/-
  The reference's Over.
-/
import Derived.Test.YtlniokpekcoodaaGreatDoorROverPVM
set_option linter.unusedVariables false
set_option linter.unusedSimpArgs false
namespace Go.Proofs.YtlniokpekcoodaaGreatDoor
open Go.RowKit Go.Sort

/-- The boxes of Over's arguments and of what it gives. -/
abbrev wA (w : World) (k1 : Int) (b1 : Bool) (n1 : Int) (s1 : ByteArray) (la1 : Option Addr) (ll1 lc1 : Nat) (ma1 : Option Addr) (ml1 mc1 : Nat) (k : Int) (b : Bool) (n : Int) (s : ByteArray) (la : Option Addr) (ll lc : Nat) (ma : Option Addr) (ml mc : Nat) : World :=
  ((w.alloc (.cells #[.int .i64 k1, .bool b1, .int .i64 n1, .string s1, .slice la1 ll1 lc1, .slice ma1 ml1 mc1] 25)).alloc (.cells #[.int .i64 k, .bool b, .int .i64 n, .string s, .slice la ll lc, .slice ma ml mc] 25)).alloc (.cells #[.int .i64 0, .bool false, .int .i64 0, .string ⟨#[]⟩, .slice none 0 0, .slice none 0 0] 25)

set_option maxRecDepth 100000 in
set_option maxHeartbeats 4000000 in
theorem rOver_any {w0 : World} {R2 : Nat → Prop} {u : T} {ds : Array Value} (h : Lies w0 R2 u ds) : ∀ {R1 : Nat → Prop} {t : T} {cs : Array Value}, Lies w0 R1 t cs → ∀ (w : World), Below w0.heap.size w0 w → t.size ≤ 1000000 → u.size ≤ 1000000 → Calls Tryz.prog 14 #[.agg cs, .agg ds] w (RPutIn w0 (fun b => R1 b ∨ R2 b) w (T.over t u)) := by
  induction h with
  | mk k b n s l m la lc ma mc cl cm hk hn hs hl hm rl rm ks il im ihl ihm =>
    intro R1 t cs ht w hw hts hus
    have HT := Lib.hid (Lies.mk (w := w0) k b n s l m la lc ma mc cl cm hk hn hs hl hm rl rm ks il im)
    have HM : Hid (SliceP w0 R2 m ma mc cm) := ⟨hm, rm, ks, im⟩
    have IH := Lib.hid ihm
    have hle := hm.le
    have hbig := hm.big
    have hml : m.length ≤ 1000000 := by
      have h1 := len_le_sumL (fun p : ByteArray × T => p.2.size) m (fun q _ => size_posL q.2)
      rw [T.size_mk] at hus
      omega
    have hmz : Hid (∀ i (hi : i < m.length), m[i].2.size ≤ 1000000) := fun i hi => by
      have h1 := le_sum (List.mem_map.2 ⟨m[i], List.getElem_mem hi, rfl⟩ : m[i].2.size ∈ m.map fun p => p.2.size)
      rw [T.size_mk] at hus
      omega
    have HUS := Lib.hid hus
    clear hk hn hs hl hm rl rm ks il im ihl ihm hus
    obtain ⟨dd, hu, hdd⟩ := Tryz.structV
    have DD := Lib.hid hdd
    have HU := Lib.hid hu
    clear hu hdd
    have HT1 := Lib.hid ht
    cases ht with
    | mk k1 b1 n1 s1 l1 m1 la1 lc1 ma1 mc1 cl1 cm1 hk1 hn1 hs1 hl1 hm1 rl1 rm1 ks1 il1 im1 =>
      have HM1 : Hid (SliceP w0 R1 m1 ma1 mc1 cm1) := ⟨hm1, rm1, ks1, im1⟩
      have hle1 := hm1.le
      have hbig1 := hm1.big
      have hml1 : m1.length ≤ 1000000 := by
        have h1 := len_le_sumL (fun p : ByteArray × T => p.2.size) m1 (fun q _ => size_posL q.2)
        rw [T.size_mk] at hts
        omega
      have hmz1 : Hid (∀ i (hi : i < m1.length), m1[i].2.size ≤ 1000000) := fun i hi => by
        have h1 := le_sum (List.mem_map.2 ⟨m1[i], List.getElem_mem hi, rfl⟩ : m1[i].2.size ∈ m1.map fun p => p.2.size)
        rw [T.size_mk] at hts
        omega
      clear hk1 hn1 hs1 hl1 hm1 rl1 rm1 ks1 il1 im1 hts
      have A2 := Lib.hid ((((Below.refl w.heap.size w).alloc (Nat.le_refl _) (.cells #[.int .i64 k1, .bool b1, .int .i64 n1, .string s1, .slice la1 l1.length lc1, .slice ma1 m1.length mc1] 25)).alloc (by simp) (.cells #[.int .i64 k, .bool b, .int .i64 n, .string s, .slice la l.length lc, .slice ma m.length mc] 25)).alloc (by simp; omega) (.cells #[.int .i64 0, .bool false, .int .i64 0, .string ⟨#[]⟩, .slice none 0 0, .slice none 0 0] 25))
      have B3 := (Below.refl (wA w k1 b1 n1 s1 la1 l1.length lc1 ma1 m1.length mc1 k b n s la l.length lc ma m.length mc).heap.size (wA w k1 b1 n1 s1 la1 l1.length lc1 ma1 m1.length mc1 k b n s la l.length lc ma m.length mc)).alloc (Nat.le_refl _) (.cells #[.int .i64 5, .bool false, .int .i64 0, .string ⟨#[]⟩, .slice none 0 0, .slice none 0 0] 25)
      by_cases hmap : k1 = 5 ∧ k = 5
      case neg =>
        have HE : Hid (T.over (.mk k1 b1 n1 s1 l1 m1) (.mk k b n s l m) = T.over T.nil (.mk k b n s l m)) := by
          show _ = _
          by_cases h5 : k = 5
          · exact over_pairs _ (by rw [pairs_ne b1 n1 s1 l1 m1 (fun e => hmap ⟨e, h5⟩), nil_pairs])
          · rw [over_other _ b n s l m h5, over_other _ b n s l m h5]
        rw [HE.out]
        have f1 : (k1 != 5) = true ∨ (k1 != 5) = false ∧ (k != 5) = true := by
          by_cases h1 : k1 = 5
          · exact .inr ⟨by simp [h1], by have : k ≠ 5 := fun e => hmap ⟨h1, e⟩; simp [this]⟩
          · exact .inl (by simp [h1])
        clear hmap B3 HE
        rcases f1 with f1 | ⟨f1, f2⟩
        all_goals
          go_enter Tryz.func14, Tryz.ntmps14
          go_wp2_with fail
          refine (rStrip_any HT.out _ (bstep hw A2.out hw.size) HUS.out).mono ?_
          rintro e w1 ⟨qs, rfl, hL, hb1⟩
          obtain ⟨q0, q1, q2, q3, q4, q4l, q4c, q5, q5l, q5c, rfl⟩ := hL.six
          have HL := Lib.hid hL
          have hbx : w1.heap[w.heap.size + 2]? = (wA w k1 b1 n1 s1 la1 l1.length lc1 ma1 m1.length mc1 k b n s la l.length lc ma m.length mc).heap[w.heap.size + 2]? := hb1.block _ (by simp)
          have hz : ∀ i, w1.cell? ⟨w.heap.size + 2, i, none⟩ = (#[.int .i64 0, .bool false, .int .i64 0, .string ⟨#[]⟩, .slice none 0 0, .slice none 0 0] : Array Value)[i]? := fun i => (World.cell?_of_block (a := ⟨w.heap.size + 2, i, none⟩) hbx).trans (by
            have := World.cell?_alloc_new ((w.alloc (.cells #[.int .i64 k1, .bool b1, .int .i64 n1, .string s1, .slice la1 l1.length lc1, .slice ma1 m1.length mc1] 25)).alloc (.cells #[.int .i64 k, .bool b, .int .i64 n, .string s, .slice la l.length lc, .slice ma m.length mc] 25)) #[.int .i64 0, .bool false, .int .i64 0, .string ⟨#[]⟩, .slice none 0 0, .slice none 0 0] 25 i
            simpa using this)
          have hf : ∀ i, w1.frozen? ⟨w.heap.size + 1 + 1, i, none⟩ = false := fun i => (World.frozen?_of_block (a := ⟨w.heap.size + 2, i, none⟩) hbx).trans (by
            have := World.frozen?_alloc_new ((w.alloc (.cells #[.int .i64 k1, .bool b1, .int .i64 n1, .string s1, .slice la1 l1.length lc1, .slice ma1 m1.length mc1] 25)).alloc (.cells #[.int .i64 k, .bool b, .int .i64 n, .string s, .slice la l.length lc, .slice ma m.length mc] 25)) #[.int .i64 0, .bool false, .int .i64 0, .string ⟨#[]⟩, .slice none 0 0, .slice none 0 0] 25 i
            simpa using this)
          have HZ := Lib.hid hz
          have hzz := HZ.out
          have hBB := Lib.hid (bstep A2.out hb1 A2.out.size)
          go_wp2_with fail
          refine ret_cells w1 (w.heap.size + 2) [.int .i64 q0, .bool q1, .int .i64 q2, .string q3, .slice q4 q4l q4c, .slice q5 q5l q5c] rfl Tryz.results14 rfl rfl DD.out HU.out Tryz.sizeV (fun i hi => ⟨_, (HZ.out i).trans (Array.getElem?_eq_getElem (show i < 6 from hi))⟩) ?_
          have hw0 := hw.size
          have hA2 := A2.out.size
          exact ⟨_, rfl, (HL.out.keepB (fun b hb _ => setRow_heap _ [.int .i64 q0, .bool q1, .int .i64 q2, .string q3, .slice q4 q4l q4c, .slice q5 q5l q5c] _ _ _ (by
            rcases hb with h | h
            · have := h.2; omega
            · have h : w.heap.size + 1 + 1 + 1 ≤ b := by simpa using h
              omega))).weaken (fun b hb => by
            rcases hb.1 with h | h
            · exact .inl ⟨.inr h.1, h.2⟩
            · exact .inr (Nat.le_trans hA2 h)), setRow_below _ (by omega) [.int .i64 q0, .bool q1, .int .i64 q2, .string q3, .slice q4 q4l q4c, .slice q5 q5l q5c] _ _ hBB.out⟩
      case pos =>
        obtain ⟨rfl, rfl⟩ := hmap
        have HE : Hid (T.over (.mk 5 b1 n1 s1 l1 m1) (.mk 5 b n s l m) = mk5 (overR m1 m)) := by
          show _ = _
          rw [over_map, pairs5]
          rfl
        rw [HE.out]
        obtain ⟨i0, hi, hz0, hz1, hz2⟩ := info_parts Tryz.infoP
        have HI0 := Lib.hid hi
        have HZ0 := Lib.hid hz0
        have HZ1 := Lib.hid hz1
        have HZ2 := Lib.hid hz2
        obtain ⟨q0, q1, q2, q3⟩ := three_boxes B3 (by simp)
        have Q0 := Lib.hid q0
        have Q1 := Lib.hid q1
        have Q2 := Lib.hid q2
        have Q3 := Lib.hid q3
        have e3 : (((w.alloc (.cells #[.int .i64 5, .bool b1, .int .i64 n1, .string s1, .slice la1 l1.length lc1, .slice ma1 m1.length mc1] 25)).alloc (.cells #[.int .i64 5, .bool b, .int .i64 n, .string s, .slice la l.length lc, .slice ma m.length mc] 25)).alloc (.cells #[.int .i64 0, .bool false, .int .i64 0, .string ⟨#[]⟩, .slice none 0 0, .slice none 0 0] 25)).heap.size = w.heap.size + 1 + 1 + 1 := by simp
        have BO := BoxA.new (((w.alloc (.cells #[.int .i64 5, .bool b1, .int .i64 n1, .string s1, .slice la1 l1.length lc1, .slice ma1 m1.length mc1] 25)).alloc (.cells #[.int .i64 5, .bool b, .int .i64 n, .string s, .slice la l.length lc, .slice ma m.length mc] 25)).alloc (.cells #[.int .i64 0, .bool false, .int .i64 0, .string ⟨#[]⟩, .slice none 0 0, .slice none 0 0] 25)) (.int .i64 5) (.bool false) (.int .i64 0) (.string ⟨#[]⟩) (.slice none 0 0) (.slice none 0 0) 25
        have FO := fun j => World.frozen?_alloc_new (((w.alloc (.cells #[.int .i64 5, .bool b1, .int .i64 n1, .string s1, .slice la1 l1.length lc1, .slice ma1 m1.length mc1] 25)).alloc (.cells #[.int .i64 5, .bool b, .int .i64 n, .string s, .slice la l.length lc, .slice ma m.length mc] 25)).alloc (.cells #[.int .i64 0, .bool false, .int .i64 0, .string ⟨#[]⟩, .slice none 0 0, .slice none 0 0] 25)) #[.int .i64 5, .bool false, .int .i64 0, .string ⟨#[]⟩, .slice none 0 0, .slice none 0 0] 25 j
        rw [e3] at BO FO
        have BO0 := Lib.hid BO
        have FO0 := Lib.hid FO
        have HSV : Hid (((((w.alloc (.cells #[.int .i64 5, .bool b1, .int .i64 n1, .string s1, .slice la1 l1.length lc1, .slice ma1 m1.length mc1] 25)).alloc (.cells #[.int .i64 5, .bool b, .int .i64 n, .string s, .slice la l.length lc, .slice ma m.length mc] 25)).alloc (.cells #[.int .i64 0, .bool false, .int .i64 0, .string ⟨#[]⟩, .slice none 0 0, .slice none 0 0] 25)).alloc (.cells #[.int .i64 5, .bool false, .int .i64 0, .string ⟨#[]⟩, .slice none 0 0, .slice none 0 0] 25)).heap.size = w.heap.size + 4) := by show _ = _; simp
        have AV := Lib.hid (A2.out.alloc (by simp; omega) (.cells #[.int .i64 5, .bool false, .int .i64 0, .string ⟨#[]⟩, .slice none 0 0, .slice none 0 0] 25))
        clear hi hz0 hz1 hz2 q0 q1 q2 q3 e3 BO FO B3 HE HT HT1
        go_enter Tryz.func14, Tryz.ntmps14
        go_wp2_with fail
        generalize hv : ((((w.alloc (.cells #[.int .i64 5, .bool b1, .int .i64 n1, .string s1, .slice la1 l1.length lc1, .slice ma1 m1.length mc1] 25)).alloc (.cells #[.int .i64 5, .bool b, .int .i64 n, .string s, .slice la l.length lc, .slice ma m.length mc] 25)).alloc (.cells #[.int .i64 0, .bool false, .int .i64 0, .string ⟨#[]⟩, .slice none 0 0, .slice none 0 0] 25)).alloc (.cells #[.int .i64 5, .bool false, .int .i64 0, .string ⟨#[]⟩, .slice none 0 0, .slice none 0 0] 25)) = v at *
        clear hv
        have hvs := HSV.out
        have c5' : v.cell? ⟨w.heap.size, 5, none⟩ = some (.slice ma1 m1.length mc1) := Q0.out 5
        have c5'' : v.cell? ⟨w.heap.size + 1, 5, none⟩ = some (.slice ma m.length mc) := Q1.out 5
        go_loopw [6, 7] (fun v6 v7 wr => ∃ (i j : Nat) (al : Option Addr) (cl' : Nat) (K : List Q), i ≤ m1.length ∧ j ≤ m.length ∧ v6 = .int .i64 i ∧ v7 = .int .i64 j ∧ Hid (OwnW (fun b => ((R1 b ∨ R2 b) ∧ b < w0.heap.size) ∨ w.heap.size + 3 < b) (w.heap.size + 3) wr (.slice al K.length cl') K) ∧ Hid (K.map strip ++ overR (m1.drop i) (m.drop j) = overR m1 m) ∧ K.length ≤ i + j ∧ Hid (BoxA wr (w.heap.size + 1 + 1 + 1) (.int .i64 5) (.bool false) (.int .i64 0) (.string ⟨#[]⟩) (.slice none 0 0) (.slice al K.length cl')) ∧ Hid (∀ j, wr.frozen? ⟨w.heap.size + 1 + 1 + 1, j, none⟩ = false) ∧ Hid (∀ b, b < v.heap.size → b ≠ w.heap.size + 3 → wr.heap[b]? = v.heap[b]?) ∧ v.heap.size ≤ wr.heap.size ∧ Hid (Below w.heap.size w wr)) (fun v6 v7 _ => (m1.length - (intOf v6).toNat) + (m.length - (intOf v7).toNat))
        case atStart => exact ⟨0, 0, none, 0, [], by omega, by omega, rfl, rfl, OwnW.nil _ _ _, by show _ = _; simp, by simp, BO0, FO0, fun _ _ _ => rfl, Nat.le_refl _, AV⟩
        case round =>
          obtain ⟨i, j, al, cl', K, hi, hj, rfl, rfl, HK, HE, hKl, BO, FZ, KP, SZ, HB⟩ := hrel
          have hkp := KP.out
          have hsz := SZ
          have xk1 : wr.cell? ⟨w.heap.size, 5, none⟩ = some (.slice ma1 m1.length mc1) := (World.cell?_of_block (hkp w.heap.size (by omega) (by omega))).trans c5'
          have xk2 : wr.cell? ⟨w.heap.size + 1, 5, none⟩ = some (.slice ma m.length mc) := (World.cell?_of_block (hkp (w.heap.size + 1) (by omega) (by omega))).trans c5''
          by_cases hend : i < m1.length ∨ j < m.length
          · by_cases hleft : ∃ hi : i < m1.length, ∀ hj : j < m.length, ltS m1[i].1 m[j].1 = true
            · obtain ⟨hil, hlt⟩ := hleft
              obtain ⟨bl, ol, hma, _⟩ := HM1.out.hdr.some (by omega)
              subst hma
              have hWw := bstep hw HB.out hw.size
              obtain ⟨bl2, ol2, c0, c1, c2, c3, c4, c4l, c4c, c5, c5l, c5c, e2, hc, r0, r1, r2, r3, r4, r5, r6⟩ := openM hWw HM1.out.hdr HM1.out.rows hil (HM1.out.each i hil)
              obtain ⟨rfl, rfl⟩ : bl = bl2 ∧ ol = ol2 := by simpa using e2
              have hLx := HM1.out.each i hil
              rw [hc] at hLx
              have HLX := Lib.hid hLx
              have hko := HM1.out.keys i hil
              have hbl : bl < w0.heap.size := by
                obtain ⟨b', o', e', hR⟩ := HM1.out.boundL.hdr.some (by omega)
                obtain ⟨rfl, rfl⟩ : bl = b' ∧ ol = o' := by simpa using e'
                exact hR.2
              have HE2 : Hid (∀ ds : Array Value, (K ++ [(m1[i].1, m1[i].2, ds)]).map strip ++ overR (m1.drop (i + 1)) (m.drop j) = overR m1 m) := fun ds => by
                rw [← HE.out, over_left_at m1 m i j hil hlt, List.map_append, List.append_assoc]
                rfl
              clear hc e2 hLx hend
              by_cases hjl : j < m.length
              · have g1 : Op.bytesLess m1[i].1.toList m[j].1.toList = true := hlt hjl
                have g2 : ((j : Int) == (m.length : Int)) = false := beq_eq_false_iff_ne.2 (by omega)
                obtain ⟨bm, om, hma, _⟩ := HM.out.hdr.some (by omega)
                subst hma
                obtain ⟨bm2, om2, d0, d1, d2, d3, d4, d4l, d4c, d5, d5l, d5c, e2, hc, p0, p1, p2, p3, p4, p5, p6⟩ := openM hWw HM.out.hdr HM.out.rows hjl (HM.out.each j hjl)
                obtain ⟨rfl, rfl⟩ : bm = bm2 ∧ om = om2 := by simpa using e2
                clear hc e2 hlt hWw hkp
                go_upto_region 6 with fail
                go_quiet (fail)
                go_upto_region 7 with fail
                obtain ⟨xo0, xo1, xo2, xo3, xo4, xo5⟩ := BO.out
                have hex := World.block_lt_of_cell? _ _ xo5
                have hobK : ∀ g, (Value.slice al K.length cl').ownBlock = some g → w.heap.size + 3 < g ∧ g < wr.heap.size := fun g hg => HK.out.block hg
                have hw0 := hw.size
                refine wp_region_grows (fun wx => wr.heap.size ≤ wx.heap.size ∧ Below w.heap.size w wx ∧ ∀ b, b < wr.heap.size → (Value.slice al K.length cl').ownBlock ≠ some b → wx.heap[b]? = wr.heap[b]?) (fun wx => OwnW (fun b => ((R1 b ∨ R2 b) ∧ b < w0.heap.size) ∨ w.heap.size + 3 < b) (w.heap.size + 3) wx (.slice al K.length cl') K) (fun w1 w2 => w1.grownBy w2 (Value.slice al K.length cl').ownBlock ∧ wr.heap.size ≤ w1.heap.size) 8 10 (fun i => 61 + i) (fun i' x wx => match i' with
                    | 0 => x = .pointer (some ⟨w.heap.size + 1 + 1 + 1, 5, none⟩) | 1 => x = .slice al K.length cl' | 2 => x = .pointer (some ⟨w.heap.size, 5, none⟩) | 3 => x = .slice (some ⟨bl, ol, none⟩) m1.length mc1 | 4 => x = .int .i64 i | 5 => x = .pointer (some ⟨bl, ol + i * 7, none⟩) | 6 => x = .agg #[.string m1[i].1, .int .i64 c0, .bool c1, .int .i64 c2, .string c3, .slice c4 c4l c4c, .slice c5 c5l c5c]
                    | 7 => ∃ (g : Nat), x = .slice (some ⟨g, 0, none⟩) 1 1 ∧ (∀ j' u, (#[Value.string m1[i].1, .int .i64 c0, .bool c1, .int .i64 c2, .string c3, .slice c4 c4l c4c, .slice c5 c5l c5c] : Array Value).toList[j']? = some u → wx.cell? ⟨g, j', none⟩ = some u) ∧ wr.heap.size ≤ g ∧ g < wx.heap.size
                    | 8 => ∃ (a7 : Option Addr) (e7 : Nat) (ds : Array Value), x = .slice a7 (K.length + 1) e7 ∧ OwnW (fun b => ((R1 b ∨ R2 b) ∧ b < w0.heap.size) ∨ w.heap.size + 3 < b) (w.heap.size + 3) wx (.slice a7 (K.length + 1) e7) (K ++ [(m1[i].1, m1[i].2, ds)])
                    | 9 => x = .pointer (some ⟨w.heap.size + 1 + 1 + 1, 5, none⟩) | _ => True) (fun _ wx => ∃ (a7 : Option Addr) (e7 : Nat) (ds : Array Value), Hid (OwnW (fun b => ((R1 b ∨ R2 b) ∧ b < w0.heap.size) ∨ w.heap.size + 3 < b) (w.heap.size + 3) wx (.slice a7 (K.length + 1) e7) (K ++ [(m1[i].1, m1[i].2, ds)])) ∧ Hid (BoxA wx (w.heap.size + 1 + 1 + 1) (.int .i64 5) (.bool false) (.int .i64 0) (.string ⟨#[]⟩) (.slice none 0 0) (.slice a7 (K.length + 1) e7)) ∧ Hid (∀ j, wx.frozen? ⟨w.heap.size + 1 + 1 + 1, j, none⟩ = false) ∧ Hid (∀ b, b < v.heap.size → b ≠ w.heap.size + 3 → wx.heap[b]? = v.heap[b]?) ∧ v.heap.size ≤ wx.heap.size ∧ Hid (Below w.heap.size w wx)) (by kernel_rfl) (by kernel_rfl) ?g1 (by decide) ⟨Nat.le_refl _, (bdrewN HB.out _).drew, fun _ _ _ => rfl⟩ (HK.out.later (bdrewN (Below.refl _ _) _).drew) ?g2 ?g3 ?g4 ?g5 ?g6 ?g7 ?g8 ?g9 ?g10
                case g1 => intro i' hi'; exact Nat.lt_of_lt_of_le (show 61 + i' < 125 by omega) (Nat.le_refl 125)
                case g2 => exact fun w1 w2 hb ⟨h1, h2, h3⟩ => ⟨Nat.le_trans h1 hb.size, bstep h2 hb h2.size, fun b hb2 hn => (hb.block b (by omega)).trans (h3 b hb2 hn)⟩
                case g3 => exact fun w1 w2 ⟨hg, hsz2⟩ ⟨h1, h2, h3⟩ => ⟨Nat.le_trans h1 hg.size, h2.grown hg h2.size (fun g hg2 => by have := (hobK g hg2).1; omega), fun b hb2 hn => (hg.block b (by omega) (fun e => hn e.symm)).trans (h3 b hb2 hn)⟩
                case g4 => exact fun w1 w2 hb h => h.later hb
                case g5 =>
                  intro i' x w1 w2 hip hR hU
                  obtain ⟨hg, hsz2⟩ := hR
                  match i', hU with
                  | 7, ⟨g, e, hc, h1, h2⟩ => exact ⟨g, e, fun j' u hu => (World.cell?_of_block (hg.block g h2 (fun e => by have := hobK _ e.symm; omega))).trans (hc j' u hu), h1, Nat.lt_of_lt_of_le h2 hg.size⟩
                  | 8, _ => exact absurd rfl hip
                  | 0, h | 1, h | 2, h | 3, h | 4, h | 5, h | 6, h | 9, h => exact h
                  | (n + 10), _ => trivial
                case g6 =>
                  intro i' x w1 w2 hb hU
                  match i', hU with
                  | 7, ⟨g, e, hc, h1, h2⟩ => exact ⟨g, e, fun j' u hu => (hb.cell (p := ⟨g, j', none⟩) h2).trans (hc j' u hu), h1, Nat.lt_of_lt_of_le h2 hb.size⟩
                  | 8, ⟨a7, e7, ds, e, ho⟩ => exact ⟨a7, e7, ds, e, ho.later hb⟩
                  | 0, h | 1, h | 2, h | 3, h | 4, h | 5, h | 6, h | 9, h => exact h
                  | (n + 10), _ => trivial
                case g7 =>
                  intro i' o ac wb K' ho hi' hip hA hB hdep hK
                  obtain ⟨hB1, hB2, hB3⟩ := hB
                  have s2 : ac.tmps[2]?.getD undef = .pointer (some ⟨w.heap.size, 0, none⟩) := hA.sl (t := 2) (by decide)
                  have s5 : ac.tmps[5]?.getD undef = .pointer (some ⟨w.heap.size + 1 + 1 + 1, 0, none⟩) := hA.sl (t := 5) (by decide)
                  have s6 : ac.tmps[6]?.getD undef = .int .i64 i := hA.sl (t := 6) (by decide)
                  have n1 := hB3 w.heap.size (by omega) (fun e => by have := (hobK _ e).1; omega)
                  have n2 := hB3 (w.heap.size + 3) hex (fun e => by have := (hobK _ e).1; omega)
                  have n3 := hB3 bl (by omega) (fun e => by have := (hobK _ e).1; omega)
                  have k5 : wb.cell? ⟨w.heap.size, 5, none⟩ = some (.slice (some ⟨bl, ol, none⟩) m1.length mc1) := (World.cell?_of_block n1).trans xk1
                  have k6 : wb.cell? ⟨w.heap.size + 1 + 1 + 1, 5, none⟩ = some (.slice al K.length cl') := (World.cell?_of_block n2).trans xo5
                  have r0 := (World.cell?_of_block (a := ⟨bl, ol + i * 7, none⟩) n3).trans r0
                  have r1 := (World.cell?_of_block (a := ⟨bl, ol + i * 7 + 1, none⟩) n3).trans r1
                  have r2 := (World.cell?_of_block (a := ⟨bl, ol + i * 7 + 2, none⟩) n3).trans r2
                  have r3 := (World.cell?_of_block (a := ⟨bl, ol + i * 7 + 3, none⟩) n3).trans r3
                  have r4 := (World.cell?_of_block (a := ⟨bl, ol + i * 7 + 4, none⟩) n3).trans r4
                  have r5 := (World.cell?_of_block (a := ⟨bl, ol + i * 7 + 5, none⟩) n3).trans r5
                  have r6 := (World.cell?_of_block (a := ⟨bl, ol + i * 7 + 6, none⟩) n3).trans r6
                  clear n1 n2 n3 hB3 hA
                  rcases (by omega : i' = 0 ∨ i' = 1 ∨ i' = 2 ∨ i' = 3 ∨ i' = 4 ∨ i' = 5 ∨ i' = 6 ∨ i' = 7 ∨ i' = 9) with rfl | rfl | rfl | rfl | rfl | rfl | rfl | rfl | rfl
                  · simp at ho
                    subst ho
                    go_simp
                    exact hK _ wb (Below.refl _ _) rfl
                  · simp at ho
                    subst ho
                    have y0 : ac.tmps[61]?.getD undef = _ := hdep { on := 0, ground := .data } (by simp) rfl
                    go_simp
                    exact hK _ wb (Below.refl _ _) rfl
                  · simp at ho
                    subst ho
                    go_simp
                    exact hK _ wb (Below.refl _ _) rfl
                  · simp at ho
                    subst ho
                    have y0 : ac.tmps[63]?.getD undef = _ := hdep { on := 2, ground := .data } (by simp) rfl
                    go_simp
                    exact hK _ wb (Below.refl _ _) rfl
                  · simp at ho
                    subst ho
                    go_simp
                    exact hK _ wb (Below.refl _ _) rfl
                  · simp at ho
                    subst ho
                    have y0 : ac.tmps[64]?.getD undef = _ := hdep { on := 3, ground := .data } (by simp) rfl
                    have y1 : ac.tmps[65]?.getD undef = _ := hdep { on := 4, ground := .data } (by simp) rfl
                    go_simp
                    exact hK _ wb (Below.refl _ _) rfl
                  · simp at ho
                    subst ho
                    have y0 : ac.tmps[66]?.getD undef = _ := hdep { on := 5, ground := .data } (by simp) rfl
                    go_simp
                    exact hK _ wb (Below.refl _ _) rfl
                  · simp at ho
                    subst ho
                    have y1 : ac.tmps[67]?.getD undef = Value.agg #[.string m1[i].1, .int .i64 c0, .bool c1, .int .i64 c2, .string c3, .slice c4 c4l c4c, .slice c5 c5l c5c] := hdep { on := 6, ground := .data } (by simp) rfl
                    go_simp
                    exact hK _ _ ((Below.refl _ _).alloc (Nat.le_refl _) _) ⟨wb.heap.size, rfl, (fun j' u hu => by have := lit_cells wb #[.string m1[i].1, .int .i64 c0, .bool c1, .int .i64 c2, .string c3, .slice c4 c4l c4c, .slice c5 c5l c5c] 51 j' u hu; rwa [Addr.add_lit, Nat.zero_add] at this), hB1, by simp⟩
                  · simp at ho
                    subst ho
                    go_simp
                    exact hK _ wb (Below.refl _ _) rfl
                case g8 =>
                  intro o ac wb K' ho hA hB hG hdep hK
                  obtain ⟨hB1, hB2, hB3⟩ := hB
                  simp at ho
                  subst ho
                  have y0 : ac.tmps[62]?.getD undef = .slice al K.length cl' := hdep { on := 1, ground := .data } (by simp) rfl
                  obtain ⟨g, y1, hgc, h1, h2⟩ := hdep { on := 7, ground := .data } (by simp) rfl
                  have y1 : ac.tmps[68]?.getD undef = .slice (some ⟨g, 0, none⟩) 1 1 := y1
                  have hL2 : Lies wb (fun b => (((R1 b ∨ R2 b) ∧ b < w0.heap.size) ∨ w.heap.size + 3 < b) ∧ b < wb.heap.size ∧ (Value.slice al K.length cl').ownBlock ≠ some b ∧ b ≠ w.heap.size + 3) m1[i].2 #[.int .i64 c0, .bool c1, .int .i64 c2, .string c3, .slice c4 c4l c4c, .slice c5 c5l c5c] := (HLX.out.bound.later (bstep hw hB2 hw.size)).weaken fun b hb => by
                    have h2 := hb.2
                    exact ⟨.inl ⟨.inl hb.1, h2⟩, by have := hB2.size; omega, fun e => by have := hobK _ e; omega, by omega⟩
                  refine wp_append_own rfl (.tmp 62) (.tmp 68) 23 rfl (w.heap.size + 3 + 1) 51 i0 _ 7 104 Tryz.underlying23 HI0.out HZ0.out HZ1.out HZ2.out (by rfl) (by decide) (.slice al K.length cl') K.length _ (by first | exact y0 | (simp [Act.eval]; exact y0) | (go_simp)) hG.own ⟨g, 0, none⟩ 1 1 (#[Value.string m1[i].1, .int .i64 c0, .bool c1, .int .i64 c2, .string c3, .slice c4 c4l c4c, .slice c5 c5l c5c] : Array Value).toList (by first | exact y1 | (simp [Act.eval]; exact y1) | (go_simp)) rfl (fun j' u hu => by rw [Addr.add_lit, Nat.zero_add]; exact hgc j' u hu) (fun u hu => by
                    simp at hu
                    rcases hu with rfl | rfl | rfl | rfl | rfl | rfl | rfl <;> rfl) (by unfold maxLen; omega) (by omega) (by omega) ?_
                  intro v5 w5 own5 hg5 hob5
                  obtain ⟨a5, e5, rfl⟩ := row_form own5
                  exact hK _ w5 ⟨hg5, hB1⟩ ⟨a5, e5, #[.int .i64 c0, .bool c1, .int .i64 c2, .string c3, .slice c4 c4l c4c, .slice c5 c5l c5c], rfl, hG.one hL2 hko own5 hg5 hob5⟩
                case g9 =>
                  intro o ac wb K' ho hA hB hU hK
                  obtain ⟨hB1, hB2, hB3⟩ := hB
                  simp at ho
                  subst ho
                  have n2 := hB3 (w.heap.size + 3) hex (fun e => by have := (hobK _ e).1; omega)
                  have k5 : wb.cell? ⟨w.heap.size + 1 + 1 + 1, 5, none⟩ = some (.slice al K.length cl') := (World.cell?_of_block n2).trans xo5
                  have kf : ∀ j, wb.frozen? ⟨w.heap.size + 1 + 1 + 1, j, none⟩ = false := fun j => (World.frozen?_of_block n2).trans (FZ.out j)
                  obtain ⟨a7, e7, ds, y17, hO⟩ := hU 8 (by omega)
                  have y17 : ac.tmps[69]?.getD undef = _ := y17
                  have y18 : ac.tmps[70]?.getD undef = _ := hU 9 (by omega)
                  have B5 : BoxA wb (w.heap.size + 3) (.int .i64 5) (.bool false) (.int .i64 0) (.string ⟨#[]⟩) (.slice none 0 0) (.slice al K.length cl') := ⟨(World.cell?_of_block n2).trans xo0, (World.cell?_of_block n2).trans xo1, (World.cell?_of_block n2).trans xo2, (World.cell?_of_block n2).trans xo3, (World.cell?_of_block n2).trans xo4, k5⟩
                  go_simp
                  refine hK _ ⟨a7, e7, ds, hO.keep (fun b _ hne => setRow_heap (w.heap.size + 3) [.slice a7 (K.length + 1) e7] wb 5 b hne) (Nat.le_of_eq (setRow_size (w.heap.size + 3) [.slice a7 (K.length + 1) e7] wb 5).symm), setRow_boxA (.slice a7 (K.length + 1) e7) B5, fun j => (setRow_frozen (w.heap.size + 3) [.slice a7 (K.length + 1) e7] wb 5 _).trans (kf j), fun b hb hne => (setRow_heap (w.heap.size + 3) [.slice a7 (K.length + 1) e7] wb 5 b hne).trans ?_, ?_, setRow_below (w.heap.size + 3) (by omega) [.slice a7 (K.length + 1) e7] wb 5 hB2⟩
                  · exact (hB3 b (by omega) (fun e => by have := (hobK _ e).1; omega)).trans (KP.out b hb hne)
                  · have := setRow_size (w.heap.size + 3) [.slice a7 (K.length + 1) e7] wb 5
                    exact Nat.le_trans (by omega : v.heap.size ≤ wb.heap.size) (Nat.le_of_eq this.symm)
                case g10 =>
                  intro ac wn hA ⟨a7, e7, ds, HKn, BOn, FZn, KPn, SZn, HBn⟩
                  have hlen : (K ++ [(m1[i].1, m1[i].2, ds)]).length = K.length + 1 := by rw [List.length_append]; rfl
                  have HE3 := Lib.hid (HE2.out ds)
                  obtain ⟨K6, eK6⟩ : ∃ K6, K6 = K ++ [(m1[i].1, m1[i].2, ds)] := ⟨_, rfl⟩
                  rw [← eK6] at HKn HE3 hlen
                  rw [← hlen] at HKn BOn
                  have hs : slots 10 (fun i => 61 + i) = [61, 62, 63, 64, 65, 66, 67, 68, 69, 70] := by rfl
                  rw [hs] at hA
                  have hac := hA.act (fun t ht => by
                    have h8 : t = 61 ∨ t = 62 ∨ t = 63 ∨ t = 64 ∨ t = 65 ∨ t = 66 ∨ t = 67 ∨ t = 68 ∨ t = 69 ∨ t = 70 := by simpa using ht
                    rcases h8 with rfl | rfl | rfl | rfl | rfl | rfl | rfl | rfl | rfl | rfl <;> exact Nat.lt_of_lt_of_le (by decide : _ < 125) (Nat.le_refl 125))
                  rw [List.foldl_cons, List.foldl_cons, List.foldl_cons, List.foldl_cons, List.foldl_cons, List.foldl_cons, List.foldl_cons, List.foldl_cons, List.foldl_cons, List.foldl_cons, List.foldl_nil] at hac
                  generalize sl ac 61 = x61 at hac
                  generalize sl ac 62 = x62 at hac
                  generalize sl ac 63 = x63 at hac
                  generalize sl ac 64 = x64 at hac
                  generalize sl ac 65 = x65 at hac
                  generalize sl ac 66 = x66 at hac
                  generalize sl ac 67 = x67 at hac
                  generalize sl ac 68 = x68 at hac
                  generalize sl ac 69 = x69 at hac
                  generalize sl ac 70 = x70 at hac
                  clear hA hs eK6 HE2 HK HE BO FZ KP HB hbl hobK hex xo0 xo1 xo2 xo3 xo4 xo5 r0 r1 r2 r3 r4 r5 r6 xk1 xk2 p0 p1 p2 p3 p4 p5 p6 g1 g2
                  subst hac
                  simp only [Act.put, List.setIfInBounds_toArray, List.set_cons_succ, List.set_cons_zero]
                  go_wp2_with fail
                  go_roundw
                  case rel => exact ⟨i + 1, j, a7, e7, K6, by omega, by omega, by go_num, rfl, HKn, HE3, by omega, BOn, FZn, KPn, SZn, HBn⟩
                  case measure => simp [intOf]; omega
              · obtain rfl : j = m.length := by omega
                have g2 : ((m.length : Int) == (m.length : Int)) = true := by simp
                clear hlt hWw hkp hjl
                go_upto_region 6 with fail
                go_quiet (fail)
                go_upto_region 7 with fail
                obtain ⟨xo0, xo1, xo2, xo3, xo4, xo5⟩ := BO.out
                have hex := World.block_lt_of_cell? _ _ xo5
                have hobK : ∀ g, (Value.slice al K.length cl').ownBlock = some g → w.heap.size + 3 < g ∧ g < wr.heap.size := fun g hg => HK.out.block hg
                have hw0 := hw.size
                refine wp_region_grows (fun wx => wr.heap.size ≤ wx.heap.size ∧ Below w.heap.size w wx ∧ ∀ b, b < wr.heap.size → (Value.slice al K.length cl').ownBlock ≠ some b → wx.heap[b]? = wr.heap[b]?) (fun wx => OwnW (fun b => ((R1 b ∨ R2 b) ∧ b < w0.heap.size) ∨ w.heap.size + 3 < b) (w.heap.size + 3) wx (.slice al K.length cl') K) (fun w1 w2 => w1.grownBy w2 (Value.slice al K.length cl').ownBlock ∧ wr.heap.size ≤ w1.heap.size) 8 10 (fun i => 61 + i) (fun i' x wx => match i' with
                    | 0 => x = .pointer (some ⟨w.heap.size + 1 + 1 + 1, 5, none⟩) | 1 => x = .slice al K.length cl' | 2 => x = .pointer (some ⟨w.heap.size, 5, none⟩) | 3 => x = .slice (some ⟨bl, ol, none⟩) m1.length mc1 | 4 => x = .int .i64 i | 5 => x = .pointer (some ⟨bl, ol + i * 7, none⟩) | 6 => x = .agg #[.string m1[i].1, .int .i64 c0, .bool c1, .int .i64 c2, .string c3, .slice c4 c4l c4c, .slice c5 c5l c5c]
                    | 7 => ∃ (g : Nat), x = .slice (some ⟨g, 0, none⟩) 1 1 ∧ (∀ j' u, (#[Value.string m1[i].1, .int .i64 c0, .bool c1, .int .i64 c2, .string c3, .slice c4 c4l c4c, .slice c5 c5l c5c] : Array Value).toList[j']? = some u → wx.cell? ⟨g, j', none⟩ = some u) ∧ wr.heap.size ≤ g ∧ g < wx.heap.size
                    | 8 => ∃ (a7 : Option Addr) (e7 : Nat) (ds : Array Value), x = .slice a7 (K.length + 1) e7 ∧ OwnW (fun b => ((R1 b ∨ R2 b) ∧ b < w0.heap.size) ∨ w.heap.size + 3 < b) (w.heap.size + 3) wx (.slice a7 (K.length + 1) e7) (K ++ [(m1[i].1, m1[i].2, ds)])
                    | 9 => x = .pointer (some ⟨w.heap.size + 1 + 1 + 1, 5, none⟩) | _ => True) (fun _ wx => ∃ (a7 : Option Addr) (e7 : Nat) (ds : Array Value), Hid (OwnW (fun b => ((R1 b ∨ R2 b) ∧ b < w0.heap.size) ∨ w.heap.size + 3 < b) (w.heap.size + 3) wx (.slice a7 (K.length + 1) e7) (K ++ [(m1[i].1, m1[i].2, ds)])) ∧ Hid (BoxA wx (w.heap.size + 1 + 1 + 1) (.int .i64 5) (.bool false) (.int .i64 0) (.string ⟨#[]⟩) (.slice none 0 0) (.slice a7 (K.length + 1) e7)) ∧ Hid (∀ j, wx.frozen? ⟨w.heap.size + 1 + 1 + 1, j, none⟩ = false) ∧ Hid (∀ b, b < v.heap.size → b ≠ w.heap.size + 3 → wx.heap[b]? = v.heap[b]?) ∧ v.heap.size ≤ wx.heap.size ∧ Hid (Below w.heap.size w wx)) (by kernel_rfl) (by kernel_rfl) ?g1 (by decide) ⟨Nat.le_refl _, (bdrewN HB.out _).drew, fun _ _ _ => rfl⟩ (HK.out.later (bdrewN (Below.refl _ _) _).drew) ?g2 ?g3 ?g4 ?g5 ?g6 ?g7 ?g8 ?g9 ?g10
                case g1 => intro i' hi'; exact Nat.lt_of_lt_of_le (show 61 + i' < 125 by omega) (Nat.le_refl 125)
                case g2 => exact fun w1 w2 hb ⟨h1, h2, h3⟩ => ⟨Nat.le_trans h1 hb.size, bstep h2 hb h2.size, fun b hb2 hn => (hb.block b (by omega)).trans (h3 b hb2 hn)⟩
                case g3 => exact fun w1 w2 ⟨hg, hsz2⟩ ⟨h1, h2, h3⟩ => ⟨Nat.le_trans h1 hg.size, h2.grown hg h2.size (fun g hg2 => by have := (hobK g hg2).1; omega), fun b hb2 hn => (hg.block b (by omega) (fun e => hn e.symm)).trans (h3 b hb2 hn)⟩
                case g4 => exact fun w1 w2 hb h => h.later hb
                case g5 =>
                  intro i' x w1 w2 hip hR hU
                  obtain ⟨hg, hsz2⟩ := hR
                  match i', hU with
                  | 7, ⟨g, e, hc, h1, h2⟩ => exact ⟨g, e, fun j' u hu => (World.cell?_of_block (hg.block g h2 (fun e => by have := hobK _ e.symm; omega))).trans (hc j' u hu), h1, Nat.lt_of_lt_of_le h2 hg.size⟩
                  | 8, _ => exact absurd rfl hip
                  | 0, h | 1, h | 2, h | 3, h | 4, h | 5, h | 6, h | 9, h => exact h
                  | (n + 10), _ => trivial
                case g6 =>
                  intro i' x w1 w2 hb hU
                  match i', hU with
                  | 7, ⟨g, e, hc, h1, h2⟩ => exact ⟨g, e, fun j' u hu => (hb.cell (p := ⟨g, j', none⟩) h2).trans (hc j' u hu), h1, Nat.lt_of_lt_of_le h2 hb.size⟩
                  | 8, ⟨a7, e7, ds, e, ho⟩ => exact ⟨a7, e7, ds, e, ho.later hb⟩
                  | 0, h | 1, h | 2, h | 3, h | 4, h | 5, h | 6, h | 9, h => exact h
                  | (n + 10), _ => trivial
                case g7 =>
                  intro i' o ac wb K' ho hi' hip hA hB hdep hK
                  obtain ⟨hB1, hB2, hB3⟩ := hB
                  have s2 : ac.tmps[2]?.getD undef = .pointer (some ⟨w.heap.size, 0, none⟩) := hA.sl (t := 2) (by decide)
                  have s5 : ac.tmps[5]?.getD undef = .pointer (some ⟨w.heap.size + 1 + 1 + 1, 0, none⟩) := hA.sl (t := 5) (by decide)
                  have s6 : ac.tmps[6]?.getD undef = .int .i64 i := hA.sl (t := 6) (by decide)
                  have n1 := hB3 w.heap.size (by omega) (fun e => by have := (hobK _ e).1; omega)
                  have n2 := hB3 (w.heap.size + 3) hex (fun e => by have := (hobK _ e).1; omega)
                  have n3 := hB3 bl (by omega) (fun e => by have := (hobK _ e).1; omega)
                  have k5 : wb.cell? ⟨w.heap.size, 5, none⟩ = some (.slice (some ⟨bl, ol, none⟩) m1.length mc1) := (World.cell?_of_block n1).trans xk1
                  have k6 : wb.cell? ⟨w.heap.size + 1 + 1 + 1, 5, none⟩ = some (.slice al K.length cl') := (World.cell?_of_block n2).trans xo5
                  have r0 := (World.cell?_of_block (a := ⟨bl, ol + i * 7, none⟩) n3).trans r0
                  have r1 := (World.cell?_of_block (a := ⟨bl, ol + i * 7 + 1, none⟩) n3).trans r1
                  have r2 := (World.cell?_of_block (a := ⟨bl, ol + i * 7 + 2, none⟩) n3).trans r2
                  have r3 := (World.cell?_of_block (a := ⟨bl, ol + i * 7 + 3, none⟩) n3).trans r3
                  have r4 := (World.cell?_of_block (a := ⟨bl, ol + i * 7 + 4, none⟩) n3).trans r4
                  have r5 := (World.cell?_of_block (a := ⟨bl, ol + i * 7 + 5, none⟩) n3).trans r5
                  have r6 := (World.cell?_of_block (a := ⟨bl, ol + i * 7 + 6, none⟩) n3).trans r6
                  clear n1 n2 n3 hB3 hA
                  rcases (by omega : i' = 0 ∨ i' = 1 ∨ i' = 2 ∨ i' = 3 ∨ i' = 4 ∨ i' = 5 ∨ i' = 6 ∨ i' = 7 ∨ i' = 9) with rfl | rfl | rfl | rfl | rfl | rfl | rfl | rfl | rfl
                  · simp at ho
                    subst ho
                    go_simp
                    exact hK _ wb (Below.refl _ _) rfl
                  · simp at ho
                    subst ho
                    have y0 : ac.tmps[61]?.getD undef = _ := hdep { on := 0, ground := .data } (by simp) rfl
                    go_simp
                    exact hK _ wb (Below.refl _ _) rfl
                  · simp at ho
                    subst ho
                    go_simp
                    exact hK _ wb (Below.refl _ _) rfl
                  · simp at ho
                    subst ho
                    have y0 : ac.tmps[63]?.getD undef = _ := hdep { on := 2, ground := .data } (by simp) rfl
                    go_simp
                    exact hK _ wb (Below.refl _ _) rfl
                  · simp at ho
                    subst ho
                    go_simp
                    exact hK _ wb (Below.refl _ _) rfl
                  · simp at ho
                    subst ho
                    have y0 : ac.tmps[64]?.getD undef = _ := hdep { on := 3, ground := .data } (by simp) rfl
                    have y1 : ac.tmps[65]?.getD undef = _ := hdep { on := 4, ground := .data } (by simp) rfl
                    go_simp
                    exact hK _ wb (Below.refl _ _) rfl
                  · simp at ho
                    subst ho
                    have y0 : ac.tmps[66]?.getD undef = _ := hdep { on := 5, ground := .data } (by simp) rfl
                    go_simp
                    exact hK _ wb (Below.refl _ _) rfl
                  · simp at ho
                    subst ho
                    have y1 : ac.tmps[67]?.getD undef = Value.agg #[.string m1[i].1, .int .i64 c0, .bool c1, .int .i64 c2, .string c3, .slice c4 c4l c4c, .slice c5 c5l c5c] := hdep { on := 6, ground := .data } (by simp) rfl
                    go_simp
                    exact hK _ _ ((Below.refl _ _).alloc (Nat.le_refl _) _) ⟨wb.heap.size, rfl, (fun j' u hu => by have := lit_cells wb #[.string m1[i].1, .int .i64 c0, .bool c1, .int .i64 c2, .string c3, .slice c4 c4l c4c, .slice c5 c5l c5c] 51 j' u hu; rwa [Addr.add_lit, Nat.zero_add] at this), hB1, by simp⟩
                  · simp at ho
                    subst ho
                    go_simp
                    exact hK _ wb (Below.refl _ _) rfl
                case g8 =>
                  intro o ac wb K' ho hA hB hG hdep hK
                  obtain ⟨hB1, hB2, hB3⟩ := hB
                  simp at ho
                  subst ho
                  have y0 : ac.tmps[62]?.getD undef = .slice al K.length cl' := hdep { on := 1, ground := .data } (by simp) rfl
                  obtain ⟨g, y1, hgc, h1, h2⟩ := hdep { on := 7, ground := .data } (by simp) rfl
                  have y1 : ac.tmps[68]?.getD undef = .slice (some ⟨g, 0, none⟩) 1 1 := y1
                  have hL2 : Lies wb (fun b => (((R1 b ∨ R2 b) ∧ b < w0.heap.size) ∨ w.heap.size + 3 < b) ∧ b < wb.heap.size ∧ (Value.slice al K.length cl').ownBlock ≠ some b ∧ b ≠ w.heap.size + 3) m1[i].2 #[.int .i64 c0, .bool c1, .int .i64 c2, .string c3, .slice c4 c4l c4c, .slice c5 c5l c5c] := (HLX.out.bound.later (bstep hw hB2 hw.size)).weaken fun b hb => by
                    have h2 := hb.2
                    exact ⟨.inl ⟨.inl hb.1, h2⟩, by have := hB2.size; omega, fun e => by have := hobK _ e; omega, by omega⟩
                  refine wp_append_own rfl (.tmp 62) (.tmp 68) 23 rfl (w.heap.size + 3 + 1) 51 i0 _ 7 104 Tryz.underlying23 HI0.out HZ0.out HZ1.out HZ2.out (by rfl) (by decide) (.slice al K.length cl') K.length _ (by first | exact y0 | (simp [Act.eval]; exact y0) | (go_simp)) hG.own ⟨g, 0, none⟩ 1 1 (#[Value.string m1[i].1, .int .i64 c0, .bool c1, .int .i64 c2, .string c3, .slice c4 c4l c4c, .slice c5 c5l c5c] : Array Value).toList (by first | exact y1 | (simp [Act.eval]; exact y1) | (go_simp)) rfl (fun j' u hu => by rw [Addr.add_lit, Nat.zero_add]; exact hgc j' u hu) (fun u hu => by
                    simp at hu
                    rcases hu with rfl | rfl | rfl | rfl | rfl | rfl | rfl <;> rfl) (by unfold maxLen; omega) (by omega) (by omega) ?_
                  intro v5 w5 own5 hg5 hob5
                  obtain ⟨a5, e5, rfl⟩ := row_form own5
                  exact hK _ w5 ⟨hg5, hB1⟩ ⟨a5, e5, #[.int .i64 c0, .bool c1, .int .i64 c2, .string c3, .slice c4 c4l c4c, .slice c5 c5l c5c], rfl, hG.one hL2 hko own5 hg5 hob5⟩
                case g9 =>
                  intro o ac wb K' ho hA hB hU hK
                  obtain ⟨hB1, hB2, hB3⟩ := hB
                  simp at ho
                  subst ho
                  have n2 := hB3 (w.heap.size + 3) hex (fun e => by have := (hobK _ e).1; omega)
                  have k5 : wb.cell? ⟨w.heap.size + 1 + 1 + 1, 5, none⟩ = some (.slice al K.length cl') := (World.cell?_of_block n2).trans xo5
                  have kf : ∀ j, wb.frozen? ⟨w.heap.size + 1 + 1 + 1, j, none⟩ = false := fun j => (World.frozen?_of_block n2).trans (FZ.out j)
                  obtain ⟨a7, e7, ds, y17, hO⟩ := hU 8 (by omega)
                  have y17 : ac.tmps[69]?.getD undef = _ := y17
                  have y18 : ac.tmps[70]?.getD undef = _ := hU 9 (by omega)
                  have B5 : BoxA wb (w.heap.size + 3) (.int .i64 5) (.bool false) (.int .i64 0) (.string ⟨#[]⟩) (.slice none 0 0) (.slice al K.length cl') := ⟨(World.cell?_of_block n2).trans xo0, (World.cell?_of_block n2).trans xo1, (World.cell?_of_block n2).trans xo2, (World.cell?_of_block n2).trans xo3, (World.cell?_of_block n2).trans xo4, k5⟩
                  go_simp
                  refine hK _ ⟨a7, e7, ds, hO.keep (fun b _ hne => setRow_heap (w.heap.size + 3) [.slice a7 (K.length + 1) e7] wb 5 b hne) (Nat.le_of_eq (setRow_size (w.heap.size + 3) [.slice a7 (K.length + 1) e7] wb 5).symm), setRow_boxA (.slice a7 (K.length + 1) e7) B5, fun j => (setRow_frozen (w.heap.size + 3) [.slice a7 (K.length + 1) e7] wb 5 _).trans (kf j), fun b hb hne => (setRow_heap (w.heap.size + 3) [.slice a7 (K.length + 1) e7] wb 5 b hne).trans ?_, ?_, setRow_below (w.heap.size + 3) (by omega) [.slice a7 (K.length + 1) e7] wb 5 hB2⟩
                  · exact (hB3 b (by omega) (fun e => by have := (hobK _ e).1; omega)).trans (KP.out b hb hne)
                  · have := setRow_size (w.heap.size + 3) [.slice a7 (K.length + 1) e7] wb 5
                    exact Nat.le_trans (by omega : v.heap.size ≤ wb.heap.size) (Nat.le_of_eq this.symm)
                case g10 =>
                  intro ac wn hA ⟨a7, e7, ds, HKn, BOn, FZn, KPn, SZn, HBn⟩
                  have hlen : (K ++ [(m1[i].1, m1[i].2, ds)]).length = K.length + 1 := by rw [List.length_append]; rfl
                  have HE3 := Lib.hid (HE2.out ds)
                  obtain ⟨K6, eK6⟩ : ∃ K6, K6 = K ++ [(m1[i].1, m1[i].2, ds)] := ⟨_, rfl⟩
                  rw [← eK6] at HKn HE3 hlen
                  rw [← hlen] at HKn BOn
                  have hs : slots 10 (fun i => 61 + i) = [61, 62, 63, 64, 65, 66, 67, 68, 69, 70] := by rfl
                  rw [hs] at hA
                  have hac := hA.act (fun t ht => by
                    have h8 : t = 61 ∨ t = 62 ∨ t = 63 ∨ t = 64 ∨ t = 65 ∨ t = 66 ∨ t = 67 ∨ t = 68 ∨ t = 69 ∨ t = 70 := by simpa using ht
                    rcases h8 with rfl | rfl | rfl | rfl | rfl | rfl | rfl | rfl | rfl | rfl <;> exact Nat.lt_of_lt_of_le (by decide : _ < 125) (Nat.le_refl 125))
                  rw [List.foldl_cons, List.foldl_cons, List.foldl_cons, List.foldl_cons, List.foldl_cons, List.foldl_cons, List.foldl_cons, List.foldl_cons, List.foldl_cons, List.foldl_cons, List.foldl_nil] at hac
                  generalize sl ac 61 = x61 at hac
                  generalize sl ac 62 = x62 at hac
                  generalize sl ac 63 = x63 at hac
                  generalize sl ac 64 = x64 at hac
                  generalize sl ac 65 = x65 at hac
                  generalize sl ac 66 = x66 at hac
                  generalize sl ac 67 = x67 at hac
                  generalize sl ac 68 = x68 at hac
                  generalize sl ac 69 = x69 at hac
                  generalize sl ac 70 = x70 at hac
                  clear hA hs eK6 HE2 HK HE BO FZ KP HB hbl hobK hex xo0 xo1 xo2 xo3 xo4 xo5 r0 r1 r2 r3 r4 r5 r6 xk1 xk2 g2
                  subst hac
                  simp only [Act.put, List.setIfInBounds_toArray, List.set_cons_succ, List.set_cons_zero]
                  go_wp2_with fail
                  go_roundw
                  case rel => exact ⟨i + 1, m.length, a7, e7, K6, by omega, by omega, by go_num, rfl, HKn, HE3, by omega, BOn, FZn, KPn, SZn, HBn⟩
                  case measure => simp [intOf]; omega
            · have hjl : j < m.length := by
                rcases Nat.lt_or_ge j m.length with h | h
                · exact h
                · exact absurd ⟨by omega, fun h' => absurd h' (by omega)⟩ hleft
              obtain ⟨bm, om, hma, _⟩ := HM.out.hdr.some (by omega)
              subst hma
              have hWw := bstep hw HB.out hw.size
              obtain ⟨bm2, om2, d0, d1, d2, d3, d4, d4l, d4c, d5, d5l, d5c, e2, hc, p0, p1, p2, p3, p4, p5, p6⟩ := openM hWw HM.out.hdr HM.out.rows hjl (HM.out.each j hjl)
              obtain ⟨rfl, rfl⟩ : bm = bm2 ∧ om = om2 := by simpa using e2
              have hLd := HM.out.each j hjl
              rw [hc] at hLd
              have HLD := Lib.hid hLd
              have kj : m[j].2.kind = d0 := by rw [hc] at *; exact lies_kind hLd
              have hko := HM.out.keys j hjl
              have hmzj := hmz.out j hjl
              have IHj := fun {R1 : Nat → Prop} {t : T} {cs : Array Value} => IH.out j hjl (R1 := R1) (t := t) (cs := cs)
              rw [hc] at IHj
              have IHJ : Hid (∀ (R1 : Nat → Prop) (t : T) (cs : Array Value), Lies w0 R1 t cs → ∀ (w : World), Below w0.heap.size w0 w → t.size ≤ 1000000 → m[j].2.size ≤ 1000000 → Calls Tryz.prog 14 #[.agg cs, .agg #[.int .i64 d0, .bool d1, .int .i64 d2, .string d3, .slice d4 d4l d4c, .slice d5 d5l d5c]] w (RPutIn w0 (fun b => R1 b ∨ R2 b) w (T.over t m[j].2))) := fun R1 t cs => IHj
              have hbm : bm < w0.heap.size := by
                obtain ⟨b', o', e', hR⟩ := HM.out.boundL.hdr.some (by omega)
                obtain ⟨rfl, rfl⟩ : bm = b' ∧ om = o' := by simpa using e'
                exact hR.2
              clear hc e2 hLd hend IHj
              by_cases hil : i < m1.length
              · obtain ⟨bl, ol, hma1, _⟩ := HM1.out.hdr.some (by omega)
                subst hma1
                obtain ⟨bl2, ol2, c0, c1, c2, c3, c4, c4l, c4c, c5, c5l, c5c, e2, hc, r0, r1, r2, r3, r4, r5, r6⟩ := openM hWw HM1.out.hdr HM1.out.rows hil (HM1.out.each i hil)
                obtain ⟨rfl, rfl⟩ : bl = bl2 ∧ ol = ol2 := by simpa using e2
                have hLc := HM1.out.each i hil
                rw [hc] at hLc
                have HLC := Lib.hid hLc
                have hmz1i := hmz1.out i hil
                have hbl : bl < w0.heap.size := by
                  obtain ⟨b', o', e', hR⟩ := HM1.out.boundL.hdr.some (by omega)
                  obtain ⟨rfl, rfl⟩ : bl = b' ∧ ol = o' := by simpa using e'
                  exact hR.2
                have hnl : ltS m1[i].1 m[j].1 = false := by
                  cases h : ltS m1[i].1 m[j].1 with
                  | false => rfl
                  | true => exact absurd ⟨hil, fun _ => h⟩ hleft
                have g1 : Op.bytesLess m1[i].1.toList m[j].1.toList = false := hnl
                have g2 : ((j : Int) == (m.length : Int)) = false := beq_eq_false_iff_ne.2 (by omega)
                clear hc e2 hLc hWw hkp hleft
                by_cases hkeq : m1[i].1 = m[j].1
                · have g3 : (m1[i].1.toList == m[j].1.toList) = true := by rw [hkeq]; exact beq_self_eq_true _
                  have HKEQ := Lib.hid hkeq
                  clear hkeq
                  go_upto_region 6 with fail
                  go_quiet (fail)
                  have bq := bdrewN (Below.refl wr.heap.size wr) nq
                  have HKq := Lib.hid (HK.out.later bq)
                  have BOq : Hid (BoxA (wr.drewN nq) (w.heap.size + 1 + 1 + 1) (.int .i64 5) (.bool false) (.int .i64 0) (.string ⟨#[]⟩) (.slice none 0 0) (.slice al K.length cl')) := BO.out
                  have FZq : Hid (∀ j, (wr.drewN nq).frozen? ⟨w.heap.size + 1 + 1 + 1, j, none⟩ = false) := FZ.out
                  have KPq : Hid (∀ b, b < v.heap.size → b ≠ w.heap.size + 3 → (wr.drewN nq).heap[b]? = v.heap[b]?) := KP.out
                  have SZq : v.heap.size ≤ (wr.drewN nq).heap.size := SZ
                  have HBq : Hid (Below w.heap.size w (wr.drewN nq)) := bdrewN HB.out nq
                  have xk1 : (wr.drewN nq).cell? ⟨w.heap.size, 5, none⟩ = _ := xk1
                  have xk2 : (wr.drewN nq).cell? ⟨w.heap.size + 1, 5, none⟩ = _ := xk2
                  have p0 : (wr.drewN nq).cell? ⟨bm, om + j * 7, none⟩ = _ := p0
                  have p1 : (wr.drewN nq).cell? ⟨bm, om + j * 7 + 1, none⟩ = _ := p1
                  have p2 : (wr.drewN nq).cell? ⟨bm, om + j * 7 + 2, none⟩ = _ := p2
                  have p3 : (wr.drewN nq).cell? ⟨bm, om + j * 7 + 3, none⟩ = _ := p3
                  have p4 : (wr.drewN nq).cell? ⟨bm, om + j * 7 + 4, none⟩ = _ := p4
                  have p5 : (wr.drewN nq).cell? ⟨bm, om + j * 7 + 5, none⟩ = _ := p5
                  have p6 : (wr.drewN nq).cell? ⟨bm, om + j * 7 + 6, none⟩ = _ := p6
                  have r0 : (wr.drewN nq).cell? ⟨bl, ol + i * 7, none⟩ = _ := r0
                  have r1 : (wr.drewN nq).cell? ⟨bl, ol + i * 7 + 1, none⟩ = _ := r1
                  have r2 : (wr.drewN nq).cell? ⟨bl, ol + i * 7 + 2, none⟩ = _ := r2
                  have r3 : (wr.drewN nq).cell? ⟨bl, ol + i * 7 + 3, none⟩ = _ := r3
                  have r4 : (wr.drewN nq).cell? ⟨bl, ol + i * 7 + 4, none⟩ = _ := r4
                  have r5 : (wr.drewN nq).cell? ⟨bl, ol + i * 7 + 5, none⟩ = _ := r5
                  have r6 : (wr.drewN nq).cell? ⟨bl, ol + i * 7 + 6, none⟩ = _ := r6
                  clear HK BO FZ KP SZ HB bq
                  generalize wr.drewN nq = wq at *
                  have hsz := SZq
                  have hw00 := hw.size
                  have hq0 : w.heap.size < wq.heap.size := by omega
                  have xk1a : ∀ Z1 Z2 : Obj, ((wq.alloc Z1).alloc Z2).cell? ⟨w.heap.size, 5, none⟩ = some (.slice (some ⟨bl, ol, none⟩) m1.length mc1) := fun Z1 Z2 => (((Below.refl wq.heap.size wq).alloc (Nat.le_refl _) Z1).alloc (by simp) Z2).cell (p := ⟨w.heap.size, 5, none⟩) hq0 |>.trans xk1
                  have hq1 : bl < wq.heap.size := by omega
                  have r0a : ∀ Z1 Z2 : Obj, ((wq.alloc Z1).alloc Z2).cell? ⟨bl, ol + i * 7, none⟩ = _ := fun Z1 Z2 => (((Below.refl wq.heap.size wq).alloc (Nat.le_refl _) Z1).alloc (by simp) Z2).cell (p := ⟨bl, ol + i * 7, none⟩) hq1 |>.trans r0
                  have r1a : ∀ Z1 Z2 : Obj, ((wq.alloc Z1).alloc Z2).cell? ⟨bl, ol + i * 7 + 1, none⟩ = _ := fun Z1 Z2 => (((Below.refl wq.heap.size wq).alloc (Nat.le_refl _) Z1).alloc (by simp) Z2).cell (p := ⟨bl, ol + i * 7 + 1, none⟩) hq1 |>.trans r1
                  have r2a : ∀ Z1 Z2 : Obj, ((wq.alloc Z1).alloc Z2).cell? ⟨bl, ol + i * 7 + 2, none⟩ = _ := fun Z1 Z2 => (((Below.refl wq.heap.size wq).alloc (Nat.le_refl _) Z1).alloc (by simp) Z2).cell (p := ⟨bl, ol + i * 7 + 2, none⟩) hq1 |>.trans r2
                  have r3a : ∀ Z1 Z2 : Obj, ((wq.alloc Z1).alloc Z2).cell? ⟨bl, ol + i * 7 + 3, none⟩ = _ := fun Z1 Z2 => (((Below.refl wq.heap.size wq).alloc (Nat.le_refl _) Z1).alloc (by simp) Z2).cell (p := ⟨bl, ol + i * 7 + 3, none⟩) hq1 |>.trans r3
                  have r4a : ∀ Z1 Z2 : Obj, ((wq.alloc Z1).alloc Z2).cell? ⟨bl, ol + i * 7 + 4, none⟩ = _ := fun Z1 Z2 => (((Below.refl wq.heap.size wq).alloc (Nat.le_refl _) Z1).alloc (by simp) Z2).cell (p := ⟨bl, ol + i * 7 + 4, none⟩) hq1 |>.trans r4
                  have r5a : ∀ Z1 Z2 : Obj, ((wq.alloc Z1).alloc Z2).cell? ⟨bl, ol + i * 7 + 5, none⟩ = _ := fun Z1 Z2 => (((Below.refl wq.heap.size wq).alloc (Nat.le_refl _) Z1).alloc (by simp) Z2).cell (p := ⟨bl, ol + i * 7 + 5, none⟩) hq1 |>.trans r5
                  have r6a : ∀ Z1 Z2 : Obj, ((wq.alloc Z1).alloc Z2).cell? ⟨bl, ol + i * 7 + 6, none⟩ = _ := fun Z1 Z2 => (((Below.refl wq.heap.size wq).alloc (Nat.le_refl _) Z1).alloc (by simp) Z2).cell (p := ⟨bl, ol + i * 7 + 6, none⟩) hq1 |>.trans r6
                  go_upto_region 16 with fail
                  have b3 := (((Below.refl wq.heap.size wq).alloc (Nat.le_refl _) (.cells #[.int .i64 d0, .bool d1, .int .i64 d2, .string d3, .slice d4 d4l d4c, .slice d5 d5l d5c] 25)).alloc (by simp) (.cells #[.int .i64 c0, .bool c1, .int .i64 c2, .string c3, .slice c4 c4l c4c, .slice c5 c5l c5c] 25))
                  have sW : ((wq.alloc (.cells #[.int .i64 d0, .bool d1, .int .i64 d2, .string d3, .slice d4 d4l d4c, .slice d5 d5l d5c] 25)).alloc (.cells #[.int .i64 c0, .bool c1, .int .i64 c2, .string c3, .slice c4 c4l c4c, .slice c5 c5l c5c] 25)).heap.size = wq.heap.size + 2 := by simp
                  obtain ⟨v9, v10⟩ := box_two wq (.int .i64 d0) (.bool d1) (.int .i64 d2) (.string d3) (.slice d4 d4l d4c) (.slice d5 d5l d5c) (.int .i64 c0) (.bool c1) (.int .i64 c2) (.string c3) (.slice c4 c4l c4c) (.slice c5 c5l c5c) 25 25
                  have HBp : Hid (Below w.heap.size w ((wq.alloc (.cells #[.int .i64 d0, .bool d1, .int .i64 d2, .string d3, .slice d4 d4l d4c, .slice d5 d5l d5c] 25)).alloc (.cells #[.int .i64 c0, .bool c1, .int .i64 c2, .string c3, .slice c4 c4l c4c, .slice c5 c5l c5c] 25))) := bstep HBq.out b3 HBq.out.size
                  have HKp := Lib.hid (HKq.out.later b3)
                  have BOp : Hid (BoxA ((wq.alloc (.cells #[.int .i64 d0, .bool d1, .int .i64 d2, .string d3, .slice d4 d4l d4c, .slice d5 d5l d5c] 25)).alloc (.cells #[.int .i64 c0, .bool c1, .int .i64 c2, .string c3, .slice c4 c4l c4c, .slice c5 c5l c5c] 25)) (w.heap.size + 1 + 1 + 1) (.int .i64 5) (.bool false) (.int .i64 0) (.string ⟨#[]⟩) (.slice none 0 0) (.slice al K.length cl')) := Lib.hid (BOq.out.block (b3.block (w.heap.size + 1 + 1 + 1) (by omega)))
                  have FZp : Hid (∀ j, ((wq.alloc (.cells #[.int .i64 d0, .bool d1, .int .i64 d2, .string d3, .slice d4 d4l d4c, .slice d5 d5l d5c] 25)).alloc (.cells #[.int .i64 c0, .bool c1, .int .i64 c2, .string c3, .slice c4 c4l c4c, .slice c5 c5l c5c] 25)).frozen? ⟨w.heap.size + 1 + 1 + 1, j, none⟩ = false) := fun j => (World.frozen?_of_block (a := ⟨w.heap.size + 1 + 1 + 1, j, none⟩) (b3.block (w.heap.size + 1 + 1 + 1) (by omega))).trans (FZq.out j)
                  have KPp : Hid (∀ b, b < v.heap.size → b ≠ w.heap.size + 3 → ((wq.alloc (.cells #[.int .i64 d0, .bool d1, .int .i64 d2, .string d3, .slice d4 d4l d4c, .slice d5 d5l d5c] 25)).alloc (.cells #[.int .i64 c0, .bool c1, .int .i64 c2, .string c3, .slice c4 c4l c4c, .slice c5 c5l c5c] 25)).heap[b]? = v.heap[b]?) := fun b hb hn => (b3.block b (by omega)).trans (KPq.out b hb hn)
                  have SZp : v.heap.size ≤ ((wq.alloc (.cells #[.int .i64 d0, .bool d1, .int .i64 d2, .string d3, .slice d4 d4l d4c, .slice d5 d5l d5c] 25)).alloc (.cells #[.int .i64 c0, .bool c1, .int .i64 c2, .string c3, .slice c4 c4l c4c, .slice c5 c5l c5c] 25)).heap.size := by omega
                  have sP : wq.heap.size + 1 < ((wq.alloc (.cells #[.int .i64 d0, .bool d1, .int .i64 d2, .string d3, .slice d4 d4l d4c, .slice d5 d5l d5c] 25)).alloc (.cells #[.int .i64 c0, .bool c1, .int .i64 c2, .string c3, .slice c4 c4l c4c, .slice c5 c5l c5c] 25)).heap.size := by omega
                  have HOB : Hid (∀ g, (Value.slice al K.length cl').ownBlock = some g → w.heap.size + 3 < g ∧ g < wq.heap.size) := fun g hg => HKq.out.block hg
                  have XD := Lib.hid v9
                  have XQ := Lib.hid v10
                  clear b3 sW v9 v10 HKq BOq FZq KPq SZq HBq xk1a
                  generalize ((wq.alloc (.cells #[.int .i64 d0, .bool d1, .int .i64 d2, .string d3, .slice d4 d4l d4c, .slice d5 d5l d5c] 25)).alloc (.cells #[.int .i64 c0, .bool c1, .int .i64 c2, .string c3, .slice c4 c4l c4c, .slice c5 c5l c5c] 25)) = wp at *
                  obtain ⟨X, HX, hXz, HR⟩ : ∃ X, Hid (Lies w0 R1 X #[.int .i64 c0, .bool c1, .int .i64 c2, .string c3, .slice c4 c4l c4c, .slice c5 c5l c5c]) ∧ X.size ≤ 1000000 ∧ Hid (overR (m1.drop i) (m.drop j) = (if m[j].2.kind = 0 then [] else [(m[j].1, T.over X m[j].2)]) ++ overR (m1.drop (i + 1)) (m.drop (j + 1))) := ⟨m1[i].2, HLC, hmz1i, over_both_at m1 m i j hil hjl HKEQ.out⟩
                  by_cases hd0 : d0 = 0
                  · have f1 : (d0 != 0) = false := by simp [hd0]
                    have HE2 : Hid (K.map strip ++ overR (m1.drop (i + 1)) (m.drop (j + 1)) = overR m1 m) := by
                      show _ = _
                      rw [← HE.out, HR.out, if_pos (kj.trans hd0), List.nil_append]
                    obtain ⟨xd0, xd1, xd2, xd3, xd4, xd5⟩ := XD.out
                    clear hd0 kj HR XQ HX HE
                    go_wp2_with fail
                    go_roundw
                    case rel => exact ⟨i + 1, j + 1, al, cl', K, by omega, by omega, by go_num, by go_num, HKp, HE2, by omega, BOp, FZp, KPp, SZp, HBp⟩
                    case measure => simp [intOf]; omega
                  · have f1 : (d0 != 0) = true := by simp [hd0]
                    have HE2 : Hid (∀ ds : Array Value, (K ++ [(m[j].1, T.over X m[j].2, ds)]).map strip ++ overR (m1.drop (i + 1)) (m.drop (j + 1)) = overR m1 m) := fun ds => by
                      rw [← HE.out, HR.out, if_neg (by rw [kj]; exact hd0), List.map_append, List.append_assoc]
                      rfl
                    have xd0 := XD.out.1
                    clear hd0 kj HR HE
                    go_upto_region 17 with fail
                    clear xd0
                    obtain ⟨xo0, xo1, xo2, xo3, xo4, xo5⟩ := BOp.out
                    have hex := World.block_lt_of_cell? _ _ xo5
                    have hobK := HOB.out
                    have hw0 := hw.size
                    refine wp_region_grows (fun wx => wp.heap.size ≤ wx.heap.size ∧ Below w.heap.size w wx ∧ ∀ b, b < wp.heap.size → (Value.slice al K.length cl').ownBlock ≠ some b → wx.heap[b]? = wp.heap[b]?) (fun wx => OwnW (fun b => ((R1 b ∨ R2 b) ∧ b < w0.heap.size) ∨ w.heap.size + 3 < b) (w.heap.size + 3) wx (.slice al K.length cl') K) (fun w1 w2 => w1.grownBy w2 (Value.slice al K.length cl').ownBlock ∧ wp.heap.size ≤ w1.heap.size) 8 10 (fun i => 114 + i) (fun i' x wx => match i' with
                        | 0 => x = .pointer (some ⟨w.heap.size + 1 + 1 + 1, 5, none⟩) | 1 => x = .slice al K.length cl' | 2 => x = .string m[j].1 | 3 => x = .agg #[.int .i64 c0, .bool c1, .int .i64 c2, .string c3, .slice c4 c4l c4c, .slice c5 c5l c5c] | 4 => x = .agg #[.int .i64 d0, .bool d1, .int .i64 d2, .string d3, .slice d4 d4l d4c, .slice d5 d5l d5c]
                        | 5 => ∃ ds : Array Value, x = .agg ds ∧ Lies wx (fun b => ((R1 b ∨ R2 b) ∧ b < w0.heap.size) ∨ wp.heap.size ≤ b) (T.over X m[j].2) ds
                        | 6 => ∃ ds : Array Value, x = .agg (#[Value.string m[j].1] ++ ds) ∧ Lies wx (fun b => ((R1 b ∨ R2 b) ∧ b < w0.heap.size) ∨ wp.heap.size ≤ b) (T.over X m[j].2) ds
                        | 7 => ∃ (g : Nat) (ds : Array Value), x = .slice (some ⟨g, 0, none⟩) 1 1 ∧ (∀ j' u, (#[Value.string m[j].1] ++ ds).toList[j']? = some u → wx.cell? ⟨g, j', none⟩ = some u) ∧ Lies wx (fun b => ((R1 b ∨ R2 b) ∧ b < w0.heap.size) ∨ wp.heap.size ≤ b) (T.over X m[j].2) ds ∧ wp.heap.size ≤ g ∧ g < wx.heap.size
                        | 8 => ∃ (a7 : Option Addr) (e7 : Nat) (ds : Array Value), x = .slice a7 (K.length + 1) e7 ∧ OwnW (fun b => ((R1 b ∨ R2 b) ∧ b < w0.heap.size) ∨ w.heap.size + 3 < b) (w.heap.size + 3) wx (.slice a7 (K.length + 1) e7) (K ++ [(m[j].1, T.over X m[j].2, ds)])
                        | 9 => x = .pointer (some ⟨w.heap.size + 1 + 1 + 1, 5, none⟩) | _ => True) (fun _ wx => ∃ (a7 : Option Addr) (e7 : Nat) (ds : Array Value), Hid (OwnW (fun b => ((R1 b ∨ R2 b) ∧ b < w0.heap.size) ∨ w.heap.size + 3 < b) (w.heap.size + 3) wx (.slice a7 (K.length + 1) e7) (K ++ [(m[j].1, T.over X m[j].2, ds)])) ∧ Hid (BoxA wx (w.heap.size + 1 + 1 + 1) (.int .i64 5) (.bool false) (.int .i64 0) (.string ⟨#[]⟩) (.slice none 0 0) (.slice a7 (K.length + 1) e7)) ∧ Hid (∀ j, wx.frozen? ⟨w.heap.size + 1 + 1 + 1, j, none⟩ = false) ∧ Hid (∀ b, b < v.heap.size → b ≠ w.heap.size + 3 → wx.heap[b]? = v.heap[b]?) ∧ v.heap.size ≤ wx.heap.size ∧ Hid (Below w.heap.size w wx)) (by kernel_rfl) (by kernel_rfl) ?g1 (by decide) ⟨Nat.le_refl _, HBp.out.drew, fun _ _ _ => rfl⟩ (HKp.out.later (Below.refl _ _).drew) ?g2 ?g3 ?g4 ?g5 ?g6 ?g7 ?g8 ?g9 ?g10
                    case g1 => intro i' hi'; exact Nat.lt_of_lt_of_le (show 114 + i' < 125 by omega) (Nat.le_refl 125)
                    case g2 => exact fun w1 w2 hb ⟨h1, h2, h3⟩ => ⟨Nat.le_trans h1 hb.size, bstep h2 hb h2.size, fun b hb2 hn => (hb.block b (by omega)).trans (h3 b hb2 hn)⟩
                    case g3 => exact fun w1 w2 ⟨hg, hsz2⟩ ⟨h1, h2, h3⟩ => ⟨Nat.le_trans h1 hg.size, h2.grown hg h2.size (fun g hg2 => by have := (hobK g hg2).1; omega), fun b hb2 hn => (hg.block b (by omega) (fun e => hn e.symm)).trans (h3 b hb2 hn)⟩
                    case g4 => exact fun w1 w2 hb h => h.later hb
                    case g5 =>
                      intro i' x w1 w2 hip hR hU
                      obtain ⟨hg, hsz2⟩ := hR
                      have keepL : ∀ {Y : T} {ds : Array Value}, Lies w1 (fun b => ((R1 b ∨ R2 b) ∧ b < w0.heap.size) ∨ wp.heap.size ≤ b) Y ds → Lies w2 (fun b => ((R1 b ∨ R2 b) ∧ b < w0.heap.size) ∨ wp.heap.size ≤ b) Y ds := fun hl =>
                        (hl.keepB (fun b hRb hlt => hg.block b hlt (fun e => by
                          have := hobK _ e.symm
                          rcases hRb with h | h
                          · have := h.2; omega
                          · omega))).weaken fun b hb => hb.1
                      match i', hU with
                      | 5, ⟨ds, e, hl⟩ => exact ⟨ds, e, keepL hl⟩
                      | 6, ⟨ds, e, hl⟩ => exact ⟨ds, e, keepL hl⟩
                      | 7, ⟨g, ds, e, hc, hl, h1, h2⟩ => exact ⟨g, ds, e, fun j' u hu => (World.cell?_of_block (hg.block g h2 (fun e => by have := hobK _ e.symm; omega))).trans (hc j' u hu), keepL hl, h1, Nat.lt_of_lt_of_le h2 hg.size⟩
                      | 8, _ => exact absurd rfl hip
                      | 0, h | 1, h | 2, h | 3, h | 4, h | 9, h => exact h
                      | (n + 10), _ => trivial
                    case g6 =>
                      intro i' x w1 w2 hb hU
                      match i', hU with
                      | 5, ⟨ds, e, hl⟩ => exact ⟨ds, e, hl.later hb⟩
                      | 6, ⟨ds, e, hl⟩ => exact ⟨ds, e, hl.later hb⟩
                      | 7, ⟨g, ds, e, hc, hl, h1, h2⟩ => exact ⟨g, ds, e, fun j' u hu => (hb.cell (p := ⟨g, j', none⟩) h2).trans (hc j' u hu), hl.later hb, h1, Nat.lt_of_lt_of_le h2 hb.size⟩
                      | 8, ⟨a7, e7, ds, e, ho⟩ => exact ⟨a7, e7, ds, e, ho.later hb⟩
                      | 0, h | 1, h | 2, h | 3, h | 4, h | 9, h => exact h
                      | (n + 10), _ => trivial
                    case g7 =>
                      intro i' o ac wb K' ho hi' hip hA hB hdep hK
                      obtain ⟨hB1, hB2, hB3⟩ := hB
                      have s5 : ac.tmps[5]?.getD undef = .pointer (some ⟨w.heap.size + 1 + 1 + 1, 0, none⟩) := hA.sl (t := 5) (by decide)
                      have s8 : ac.tmps[8]?.getD undef = .string m[j].1 := hA.sl (t := 8) (by decide)
                      have s9 : ac.tmps[9]?.getD undef = .pointer (some ⟨wq.heap.size, 0, none⟩) := hA.sl (t := 9) (by decide)
                      have s10 : ac.tmps[10]?.getD undef = .pointer (some ⟨wq.heap.size + 1, 0, none⟩) := hA.sl (t := 10) (by decide)
                      have n2 := hB3 (w.heap.size + 3) hex (fun e => by have := (hobK _ e).1; omega)
                      have n9 := hB3 wq.heap.size (by omega) (fun e => by have := (hobK _ e).2; omega)
                      have n10 := hB3 (wq.heap.size + 1) (by omega) (fun e => by have := (hobK _ e).2; omega)
                      have k6 : wb.cell? ⟨w.heap.size + 1 + 1 + 1, 5, none⟩ = some (.slice al K.length cl') := (World.cell?_of_block n2).trans xo5
                      obtain ⟨xd0, xd1, xd2, xd3, xd4, xd5⟩ := XD.out
                      obtain ⟨xq0, xq1, xq2, xq3, xq4, xq5⟩ := XQ.out
                      have xd0 := (World.cell?_of_block (a := ⟨wq.heap.size, 0, none⟩) n9).trans xd0
                      have xd1 := (World.cell?_of_block (a := ⟨wq.heap.size, 1, none⟩) n9).trans xd1
                      have xd2 := (World.cell?_of_block (a := ⟨wq.heap.size, 2, none⟩) n9).trans xd2
                      have xd3 := (World.cell?_of_block (a := ⟨wq.heap.size, 3, none⟩) n9).trans xd3
                      have xd4 := (World.cell?_of_block (a := ⟨wq.heap.size, 4, none⟩) n9).trans xd4
                      have xd5 := (World.cell?_of_block (a := ⟨wq.heap.size, 5, none⟩) n9).trans xd5
                      have xq0 := (World.cell?_of_block (a := ⟨wq.heap.size + 1, 0, none⟩) n10).trans xq0
                      have xq1 := (World.cell?_of_block (a := ⟨wq.heap.size + 1, 1, none⟩) n10).trans xq1
                      have xq2 := (World.cell?_of_block (a := ⟨wq.heap.size + 1, 2, none⟩) n10).trans xq2
                      have xq3 := (World.cell?_of_block (a := ⟨wq.heap.size + 1, 3, none⟩) n10).trans xq3
                      have xq4 := (World.cell?_of_block (a := ⟨wq.heap.size + 1, 4, none⟩) n10).trans xq4
                      have xq5 := (World.cell?_of_block (a := ⟨wq.heap.size + 1, 5, none⟩) n10).trans xq5
                      clear n2 n9 n10 hB3 hA
                      rcases (by omega : i' = 0 ∨ i' = 1 ∨ i' = 2 ∨ i' = 3 ∨ i' = 4 ∨ i' = 5 ∨ i' = 6 ∨ i' = 7 ∨ i' = 9) with rfl | rfl | rfl | rfl | rfl | rfl | rfl | rfl | rfl
                      · simp at ho
                        subst ho
                        go_simp
                        exact hK _ wb (Below.refl _ _) rfl
                      · simp at ho
                        subst ho
                        have y0 : ac.tmps[114]?.getD undef = _ := hdep { on := 0, ground := .data } (by simp) rfl
                        go_simp
                        exact hK _ wb (Below.refl _ _) rfl
                      · simp at ho
                        subst ho
                        go_simp
                        exact hK _ wb (Below.refl _ _) rfl
                      · simp at ho
                        subst ho
                        go_simp
                        exact hK _ wb (Below.refl _ _) rfl
                      · simp at ho
                        subst ho
                        go_simp
                        exact hK _ wb (Below.refl _ _) rfl
                      · simp at ho
                        subst ho
                        have y0 : ac.tmps[117]?.getD undef = _ := hdep { on := 3, ground := .data } (by simp) rfl
                        have y1 : ac.tmps[118]?.getD undef = _ := hdep { on := 4, ground := .data } (by simp) rfl
                        go_simp
                        refine (IHJ.out R1 X #[.int .i64 c0, .bool c1, .int .i64 c2, .string c3, .slice c4 c4l c4c, .slice c5 c5l c5c] HX.out wb (bstep hw hB2 hw.size) hXz hmzj).mono ?_
                        rintro e w' ⟨ds, rfl, hL, hb⟩
                        exact hK _ w' hb ⟨ds, rfl, hL.weaken fun b hb => hb.imp (fun h => ⟨h.1, h.2⟩) (fun h => Nat.le_trans hB1 h)⟩
                      · simp at ho
                        subst ho
                        obtain ⟨ds, y1, hL⟩ := hdep { on := 5, ground := .data } (by simp) rfl
                        obtain ⟨f0, f1, f2, f3, f4, f4l, f4c, f5, f5l, f5c, rfl⟩ := hL.six
                        have y0 : ac.tmps[116]?.getD undef = _ := hdep { on := 2, ground := .data } (by simp) rfl
                        have y1 : ac.tmps[119]?.getD undef = _ := y1
                        go_simp
                        exact hK _ wb (Below.refl _ _) ⟨#[.int .i64 f0, .bool f1, .int .i64 f2, .string f3, .slice f4 f4l f4c, .slice f5 f5l f5c], rfl, hL⟩
                      · simp at ho
                        subst ho
                        obtain ⟨ds, y1, hL⟩ := hdep { on := 6, ground := .data } (by simp) rfl
                        obtain ⟨f0, f1, f2, f3, f4, f4l, f4c, f5, f5l, f5c, rfl⟩ := hL.six
                        have y1 : ac.tmps[120]?.getD undef = .agg #[.string m[j].1, .int .i64 f0, .bool f1, .int .i64 f2, .string f3, .slice f4 f4l f4c, .slice f5 f5l f5c] := y1
                        go_simp
                        exact hK _ _ ((Below.refl _ _).alloc (Nat.le_refl _) _) ⟨wb.heap.size, #[.int .i64 f0, .bool f1, .int .i64 f2, .string f3, .slice f4 f4l f4c, .slice f5 f5l f5c], rfl, (fun j' u hu => by have := lit_cells wb #[.string m[j].1, .int .i64 f0, .bool f1, .int .i64 f2, .string f3, .slice f4 f4l f4c, .slice f5 f5l f5c] 51 j' u hu; rwa [Addr.add_lit, Nat.zero_add] at this), hL.later ((Below.refl _ _).alloc (Nat.le_refl _) _), hB1, by simp⟩
                      · simp at ho
                        subst ho
                        go_simp
                        exact hK _ wb (Below.refl _ _) rfl
                    case g8 =>
                      intro o ac wb K' ho hA hB hG hdep hK
                      obtain ⟨hB1, hB2, hB3⟩ := hB
                      simp at ho
                      subst ho
                      have y0 : ac.tmps[115]?.getD undef = .slice al K.length cl' := hdep { on := 1, ground := .data } (by simp) rfl
                      obtain ⟨g, ds, y1, hgc, hL, h1, h2⟩ := hdep { on := 7, ground := .data } (by simp) rfl
                      obtain ⟨f0, f1, f2, f3, f4, f4l, f4c, f5, f5l, f5c, rfl⟩ := hL.six
                      have y1 : ac.tmps[121]?.getD undef = .slice (some ⟨g, 0, none⟩) 1 1 := y1
                      have hL2 : Lies wb (fun b => (((R1 b ∨ R2 b) ∧ b < w0.heap.size) ∨ w.heap.size + 3 < b) ∧ b < wb.heap.size ∧ (Value.slice al K.length cl').ownBlock ≠ some b ∧ b ≠ w.heap.size + 3) (T.over X m[j].2) #[.int .i64 f0, .bool f1, .int .i64 f2, .string f3, .slice f4 f4l f4c, .slice f5 f5l f5c] := hL.bound.weaken fun b hb => by
                        obtain ⟨hb, hlt⟩ := hb
                        rcases hb with h | h
                        · exact ⟨.inl h, hlt, fun e => by have := hobK _ e; have := h.2; omega, by have := h.2; omega⟩
                        · exact ⟨.inr (by omega), hlt, fun e => by have := hobK _ e; omega, by omega⟩
                      refine wp_append_own rfl (.tmp 115) (.tmp 121) 23 rfl (w.heap.size + 3 + 1) 51 i0 _ 7 104 Tryz.underlying23 HI0.out HZ0.out HZ1.out HZ2.out (by rfl) (by decide) (.slice al K.length cl') K.length _ (by first | exact y0 | (simp [Act.eval]; exact y0) | (go_simp)) hG.own ⟨g, 0, none⟩ 1 1 (#[Value.string m[j].1, .int .i64 f0, .bool f1, .int .i64 f2, .string f3, .slice f4 f4l f4c, .slice f5 f5l f5c] : Array Value).toList (by first | exact y1 | (simp [Act.eval]; exact y1) | (go_simp)) rfl (fun j' u hu => by rw [Addr.add_lit, Nat.zero_add]; exact hgc j' u hu) (fun u hu => by
                        simp at hu
                        rcases hu with rfl | rfl | rfl | rfl | rfl | rfl | rfl <;> rfl) (by unfold maxLen; omega) (by omega) (by omega) ?_
                      intro v5 w5 own5 hg5 hob5
                      obtain ⟨a5, e5, rfl⟩ := row_form own5
                      exact hK _ w5 ⟨hg5, hB1⟩ ⟨a5, e5, #[.int .i64 f0, .bool f1, .int .i64 f2, .string f3, .slice f4 f4l f4c, .slice f5 f5l f5c], rfl, hG.one hL2 hko own5 hg5 hob5⟩
                    case g9 =>
                      intro o ac wb K' ho hA hB hU hK
                      obtain ⟨hB1, hB2, hB3⟩ := hB
                      simp at ho
                      subst ho
                      have n2 := hB3 (w.heap.size + 3) hex (fun e => by have := (hobK _ e).1; omega)
                      have k5 : wb.cell? ⟨w.heap.size + 1 + 1 + 1, 5, none⟩ = some (.slice al K.length cl') := (World.cell?_of_block n2).trans xo5
                      have kf : ∀ j, wb.frozen? ⟨w.heap.size + 1 + 1 + 1, j, none⟩ = false := fun j => (World.frozen?_of_block n2).trans (FZp.out j)
                      obtain ⟨a7, e7, ds, y17, hO⟩ := hU 8 (by omega)
                      have y17 : ac.tmps[122]?.getD undef = _ := y17
                      have y18 : ac.tmps[123]?.getD undef = _ := hU 9 (by omega)
                      have B5 : BoxA wb (w.heap.size + 3) (.int .i64 5) (.bool false) (.int .i64 0) (.string ⟨#[]⟩) (.slice none 0 0) (.slice al K.length cl') := ⟨(World.cell?_of_block n2).trans xo0, (World.cell?_of_block n2).trans xo1, (World.cell?_of_block n2).trans xo2, (World.cell?_of_block n2).trans xo3, (World.cell?_of_block n2).trans xo4, k5⟩
                      go_simp
                      refine hK _ ⟨a7, e7, ds, hO.keep (fun b _ hne => setRow_heap (w.heap.size + 3) [.slice a7 (K.length + 1) e7] wb 5 b hne) (Nat.le_of_eq (setRow_size (w.heap.size + 3) [.slice a7 (K.length + 1) e7] wb 5).symm), setRow_boxA (.slice a7 (K.length + 1) e7) B5, fun j => (setRow_frozen (w.heap.size + 3) [.slice a7 (K.length + 1) e7] wb 5 _).trans (kf j), fun b hb hne => (setRow_heap (w.heap.size + 3) [.slice a7 (K.length + 1) e7] wb 5 b hne).trans ?_, ?_, setRow_below (w.heap.size + 3) (by omega) [.slice a7 (K.length + 1) e7] wb 5 hB2⟩
                      · exact (hB3 b (by omega) (fun e => by have := (hobK _ e).1; omega)).trans (KPp.out b hb hne)
                      · have := setRow_size (w.heap.size + 3) [.slice a7 (K.length + 1) e7] wb 5
                        exact Nat.le_trans (by omega : v.heap.size ≤ wb.heap.size) (Nat.le_of_eq this.symm)
                    case g10 =>
                      intro ac wn hA ⟨a7, e7, ds, HKn, BOn, FZn, KPn, SZn, HBn⟩
                      have hlen : (K ++ [(m[j].1, T.over X m[j].2, ds)]).length = K.length + 1 := by rw [List.length_append]; rfl
                      have HE3 := Lib.hid (HE2.out ds)
                      obtain ⟨K6, eK6⟩ : ∃ K6, K6 = K ++ [(m[j].1, T.over X m[j].2, ds)] := ⟨_, rfl⟩
                      rw [← eK6] at HKn HE3 hlen
                      rw [← hlen] at HKn BOn
                      have hs : slots 10 (fun i => 114 + i) = [114, 115, 116, 117, 118, 119, 120, 121, 122, 123] := by rfl
                      rw [hs] at hA
                      have hac := hA.act (fun t ht => by
                        have h8 : t = 114 ∨ t = 115 ∨ t = 116 ∨ t = 117 ∨ t = 118 ∨ t = 119 ∨ t = 120 ∨ t = 121 ∨ t = 122 ∨ t = 123 := by simpa using ht
                        rcases h8 with rfl | rfl | rfl | rfl | rfl | rfl | rfl | rfl | rfl | rfl <;> exact Nat.lt_of_lt_of_le (by decide : _ < 125) (Nat.le_refl 125))
                      rw [List.foldl_cons, List.foldl_cons, List.foldl_cons, List.foldl_cons, List.foldl_cons, List.foldl_cons, List.foldl_cons, List.foldl_cons, List.foldl_cons, List.foldl_cons, List.foldl_nil] at hac
                      generalize sl ac 114 = x114 at hac
                      generalize sl ac 115 = x115 at hac
                      generalize sl ac 116 = x116 at hac
                      generalize sl ac 117 = x117 at hac
                      generalize sl ac 118 = x118 at hac
                      generalize sl ac 119 = x119 at hac
                      generalize sl ac 120 = x120 at hac
                      generalize sl ac 121 = x121 at hac
                      generalize sl ac 122 = x122 at hac
                      generalize sl ac 123 = x123 at hac
                      clear hA hs eK6 HE2 HKp BOp FZp KPp HBp hobK hex xo0 xo1 xo2 xo3 xo4 xo5 XD XQ HX
                      subst hac
                      simp only [Act.put, List.setIfInBounds_toArray, List.set_cons_succ, List.set_cons_zero]
                      go_wp2_with fail
                      go_roundw
                      case rel => exact ⟨i + 1, j + 1, a7, e7, K6, by omega, by omega, by go_num, by go_num, HKn, HE3, by omega, BOn, FZn, KPn, SZn, HBn⟩
                      case measure => simp [intOf]; omega
                · have g3 : (m1[i].1.toList == m[j].1.toList) = false := str_ne hkeq
                  go_upto_region 6 with fail
                  go_quiet (fail)
                  have bq := bdrewN (Below.refl wr.heap.size wr) nq
                  have HKq := Lib.hid (HK.out.later bq)
                  have BOq : Hid (BoxA (wr.drewN nq) (w.heap.size + 1 + 1 + 1) (.int .i64 5) (.bool false) (.int .i64 0) (.string ⟨#[]⟩) (.slice none 0 0) (.slice al K.length cl')) := BO.out
                  have FZq : Hid (∀ j, (wr.drewN nq).frozen? ⟨w.heap.size + 1 + 1 + 1, j, none⟩ = false) := FZ.out
                  have KPq : Hid (∀ b, b < v.heap.size → b ≠ w.heap.size + 3 → (wr.drewN nq).heap[b]? = v.heap[b]?) := KP.out
                  have SZq : v.heap.size ≤ (wr.drewN nq).heap.size := SZ
                  have HBq : Hid (Below w.heap.size w (wr.drewN nq)) := bdrewN HB.out nq
                  have xk1 : (wr.drewN nq).cell? ⟨w.heap.size, 5, none⟩ = _ := xk1
                  have xk2 : (wr.drewN nq).cell? ⟨w.heap.size + 1, 5, none⟩ = _ := xk2
                  have p0 : (wr.drewN nq).cell? ⟨bm, om + j * 7, none⟩ = _ := p0
                  have p1 : (wr.drewN nq).cell? ⟨bm, om + j * 7 + 1, none⟩ = _ := p1
                  have p2 : (wr.drewN nq).cell? ⟨bm, om + j * 7 + 2, none⟩ = _ := p2
                  have p3 : (wr.drewN nq).cell? ⟨bm, om + j * 7 + 3, none⟩ = _ := p3
                  have p4 : (wr.drewN nq).cell? ⟨bm, om + j * 7 + 4, none⟩ = _ := p4
                  have p5 : (wr.drewN nq).cell? ⟨bm, om + j * 7 + 5, none⟩ = _ := p5
                  have p6 : (wr.drewN nq).cell? ⟨bm, om + j * 7 + 6, none⟩ = _ := p6
                  have r0 : (wr.drewN nq).cell? ⟨bl, ol + i * 7, none⟩ = _ := r0
                  have r1 : (wr.drewN nq).cell? ⟨bl, ol + i * 7 + 1, none⟩ = _ := r1
                  have r2 : (wr.drewN nq).cell? ⟨bl, ol + i * 7 + 2, none⟩ = _ := r2
                  have r3 : (wr.drewN nq).cell? ⟨bl, ol + i * 7 + 3, none⟩ = _ := r3
                  have r4 : (wr.drewN nq).cell? ⟨bl, ol + i * 7 + 4, none⟩ = _ := r4
                  have r5 : (wr.drewN nq).cell? ⟨bl, ol + i * 7 + 5, none⟩ = _ := r5
                  have r6 : (wr.drewN nq).cell? ⟨bl, ol + i * 7 + 6, none⟩ = _ := r6
                  clear HK BO FZ KP SZ HB bq
                  generalize wr.drewN nq = wq at *
                  have hsz := SZq
                  have hw00 := hw.size
                  have hq0 : w.heap.size < wq.heap.size := by omega
                  have xk1a : ∀ Z1 Z2 : Obj, ((wq.alloc Z1).alloc Z2).cell? ⟨w.heap.size, 5, none⟩ = some (.slice (some ⟨bl, ol, none⟩) m1.length mc1) := fun Z1 Z2 => (((Below.refl wq.heap.size wq).alloc (Nat.le_refl _) Z1).alloc (by simp) Z2).cell (p := ⟨w.heap.size, 5, none⟩) hq0 |>.trans xk1
                  have hq1 : bl < wq.heap.size := by omega
                  have r0a : ∀ Z1 Z2 : Obj, ((wq.alloc Z1).alloc Z2).cell? ⟨bl, ol + i * 7, none⟩ = _ := fun Z1 Z2 => (((Below.refl wq.heap.size wq).alloc (Nat.le_refl _) Z1).alloc (by simp) Z2).cell (p := ⟨bl, ol + i * 7, none⟩) hq1 |>.trans r0
                  go_upto_region 16 with fail
                  have b3 := (((Below.refl wq.heap.size wq).alloc (Nat.le_refl _) (.cells #[.int .i64 d0, .bool d1, .int .i64 d2, .string d3, .slice d4 d4l d4c, .slice d5 d5l d5c] 25)).alloc (by simp) (.cells #[.int .i64 0, .bool false, .int .i64 0, .string ⟨#[]⟩, .slice none 0 0, .slice none 0 0] 25))
                  have sW : ((wq.alloc (.cells #[.int .i64 d0, .bool d1, .int .i64 d2, .string d3, .slice d4 d4l d4c, .slice d5 d5l d5c] 25)).alloc (.cells #[.int .i64 0, .bool false, .int .i64 0, .string ⟨#[]⟩, .slice none 0 0, .slice none 0 0] 25)).heap.size = wq.heap.size + 2 := by simp
                  obtain ⟨v9, v10⟩ := box_two wq (.int .i64 d0) (.bool d1) (.int .i64 d2) (.string d3) (.slice d4 d4l d4c) (.slice d5 d5l d5c) (.int .i64 0) (.bool false) (.int .i64 0) (.string ⟨#[]⟩) (.slice none 0 0) (.slice none 0 0) 25 25
                  have HBp : Hid (Below w.heap.size w ((wq.alloc (.cells #[.int .i64 d0, .bool d1, .int .i64 d2, .string d3, .slice d4 d4l d4c, .slice d5 d5l d5c] 25)).alloc (.cells #[.int .i64 0, .bool false, .int .i64 0, .string ⟨#[]⟩, .slice none 0 0, .slice none 0 0] 25))) := bstep HBq.out b3 HBq.out.size
                  have HKp := Lib.hid (HKq.out.later b3)
                  have BOp : Hid (BoxA ((wq.alloc (.cells #[.int .i64 d0, .bool d1, .int .i64 d2, .string d3, .slice d4 d4l d4c, .slice d5 d5l d5c] 25)).alloc (.cells #[.int .i64 0, .bool false, .int .i64 0, .string ⟨#[]⟩, .slice none 0 0, .slice none 0 0] 25)) (w.heap.size + 1 + 1 + 1) (.int .i64 5) (.bool false) (.int .i64 0) (.string ⟨#[]⟩) (.slice none 0 0) (.slice al K.length cl')) := Lib.hid (BOq.out.block (b3.block (w.heap.size + 1 + 1 + 1) (by omega)))
                  have FZp : Hid (∀ j, ((wq.alloc (.cells #[.int .i64 d0, .bool d1, .int .i64 d2, .string d3, .slice d4 d4l d4c, .slice d5 d5l d5c] 25)).alloc (.cells #[.int .i64 0, .bool false, .int .i64 0, .string ⟨#[]⟩, .slice none 0 0, .slice none 0 0] 25)).frozen? ⟨w.heap.size + 1 + 1 + 1, j, none⟩ = false) := fun j => (World.frozen?_of_block (a := ⟨w.heap.size + 1 + 1 + 1, j, none⟩) (b3.block (w.heap.size + 1 + 1 + 1) (by omega))).trans (FZq.out j)
                  have KPp : Hid (∀ b, b < v.heap.size → b ≠ w.heap.size + 3 → ((wq.alloc (.cells #[.int .i64 d0, .bool d1, .int .i64 d2, .string d3, .slice d4 d4l d4c, .slice d5 d5l d5c] 25)).alloc (.cells #[.int .i64 0, .bool false, .int .i64 0, .string ⟨#[]⟩, .slice none 0 0, .slice none 0 0] 25)).heap[b]? = v.heap[b]?) := fun b hb hn => (b3.block b (by omega)).trans (KPq.out b hb hn)
                  have SZp : v.heap.size ≤ ((wq.alloc (.cells #[.int .i64 d0, .bool d1, .int .i64 d2, .string d3, .slice d4 d4l d4c, .slice d5 d5l d5c] 25)).alloc (.cells #[.int .i64 0, .bool false, .int .i64 0, .string ⟨#[]⟩, .slice none 0 0, .slice none 0 0] 25)).heap.size := by omega
                  have sP : wq.heap.size + 1 < ((wq.alloc (.cells #[.int .i64 d0, .bool d1, .int .i64 d2, .string d3, .slice d4 d4l d4c, .slice d5 d5l d5c] 25)).alloc (.cells #[.int .i64 0, .bool false, .int .i64 0, .string ⟨#[]⟩, .slice none 0 0, .slice none 0 0] 25)).heap.size := by omega
                  have HOB : Hid (∀ g, (Value.slice al K.length cl').ownBlock = some g → w.heap.size + 3 < g ∧ g < wq.heap.size) := fun g hg => HKq.out.block hg
                  have XD := Lib.hid v9
                  have XQ := Lib.hid v10
                  clear b3 sW v9 v10 HKq BOq FZq KPq SZq HBq xk1a
                  generalize ((wq.alloc (.cells #[.int .i64 d0, .bool d1, .int .i64 d2, .string d3, .slice d4 d4l d4c, .slice d5 d5l d5c] 25)).alloc (.cells #[.int .i64 0, .bool false, .int .i64 0, .string ⟨#[]⟩, .slice none 0 0, .slice none 0 0] 25)) = wp at *
                  obtain ⟨X, HX, hXz, HR⟩ : ∃ X, Hid (Lies w0 R1 X #[.int .i64 0, .bool false, .int .i64 0, .string ⟨#[]⟩, .slice none 0 0, .slice none 0 0]) ∧ X.size ≤ 1000000 ∧ Hid (overR (m1.drop (i)) (m.drop j) = (if m[j].2.kind = 0 then [] else [(m[j].1, T.over X m[j].2)]) ++ overR (m1.drop (i)) (m.drop (j + 1))) := ⟨T.nil, nil_lies w0 R1, by show T.size (.mk 0 false 0 ⟨#[]⟩ [] []) ≤ _; rw [T.size_mk]; simp, over_right_at m1 m (i) j hjl (fun _ => ⟨hnl, hkeq⟩)⟩
                  by_cases hd0 : d0 = 0
                  · have f1 : (d0 != 0) = false := by simp [hd0]
                    have HE2 : Hid (K.map strip ++ overR (m1.drop (i)) (m.drop (j + 1)) = overR m1 m) := by
                      show _ = _
                      rw [← HE.out, HR.out, if_pos (kj.trans hd0), List.nil_append]
                    obtain ⟨xd0, xd1, xd2, xd3, xd4, xd5⟩ := XD.out
                    clear hd0 kj HR XQ HX HE
                    go_wp2_with fail
                    go_roundw
                    case rel => exact ⟨i, j + 1, al, cl', K, by omega, by omega, by go_num, by go_num, HKp, HE2, by omega, BOp, FZp, KPp, SZp, HBp⟩
                    case measure => simp [intOf]; omega
                  · have f1 : (d0 != 0) = true := by simp [hd0]
                    have HE2 : Hid (∀ ds : Array Value, (K ++ [(m[j].1, T.over X m[j].2, ds)]).map strip ++ overR (m1.drop (i)) (m.drop (j + 1)) = overR m1 m) := fun ds => by
                      rw [← HE.out, HR.out, if_neg (by rw [kj]; exact hd0), List.map_append, List.append_assoc]
                      rfl
                    have xd0 := XD.out.1
                    clear hd0 kj HR HE
                    go_upto_region 17 with fail
                    clear xd0
                    obtain ⟨xo0, xo1, xo2, xo3, xo4, xo5⟩ := BOp.out
                    have hex := World.block_lt_of_cell? _ _ xo5
                    have hobK := HOB.out
                    have hw0 := hw.size
                    refine wp_region_grows (fun wx => wp.heap.size ≤ wx.heap.size ∧ Below w.heap.size w wx ∧ ∀ b, b < wp.heap.size → (Value.slice al K.length cl').ownBlock ≠ some b → wx.heap[b]? = wp.heap[b]?) (fun wx => OwnW (fun b => ((R1 b ∨ R2 b) ∧ b < w0.heap.size) ∨ w.heap.size + 3 < b) (w.heap.size + 3) wx (.slice al K.length cl') K) (fun w1 w2 => w1.grownBy w2 (Value.slice al K.length cl').ownBlock ∧ wp.heap.size ≤ w1.heap.size) 8 10 (fun i => 114 + i) (fun i' x wx => match i' with
                        | 0 => x = .pointer (some ⟨w.heap.size + 1 + 1 + 1, 5, none⟩) | 1 => x = .slice al K.length cl' | 2 => x = .string m[j].1 | 3 => x = .agg #[.int .i64 0, .bool false, .int .i64 0, .string ⟨#[]⟩, .slice none 0 0, .slice none 0 0] | 4 => x = .agg #[.int .i64 d0, .bool d1, .int .i64 d2, .string d3, .slice d4 d4l d4c, .slice d5 d5l d5c]
                        | 5 => ∃ ds : Array Value, x = .agg ds ∧ Lies wx (fun b => ((R1 b ∨ R2 b) ∧ b < w0.heap.size) ∨ wp.heap.size ≤ b) (T.over X m[j].2) ds
                        | 6 => ∃ ds : Array Value, x = .agg (#[Value.string m[j].1] ++ ds) ∧ Lies wx (fun b => ((R1 b ∨ R2 b) ∧ b < w0.heap.size) ∨ wp.heap.size ≤ b) (T.over X m[j].2) ds
                        | 7 => ∃ (g : Nat) (ds : Array Value), x = .slice (some ⟨g, 0, none⟩) 1 1 ∧ (∀ j' u, (#[Value.string m[j].1] ++ ds).toList[j']? = some u → wx.cell? ⟨g, j', none⟩ = some u) ∧ Lies wx (fun b => ((R1 b ∨ R2 b) ∧ b < w0.heap.size) ∨ wp.heap.size ≤ b) (T.over X m[j].2) ds ∧ wp.heap.size ≤ g ∧ g < wx.heap.size
                        | 8 => ∃ (a7 : Option Addr) (e7 : Nat) (ds : Array Value), x = .slice a7 (K.length + 1) e7 ∧ OwnW (fun b => ((R1 b ∨ R2 b) ∧ b < w0.heap.size) ∨ w.heap.size + 3 < b) (w.heap.size + 3) wx (.slice a7 (K.length + 1) e7) (K ++ [(m[j].1, T.over X m[j].2, ds)])
                        | 9 => x = .pointer (some ⟨w.heap.size + 1 + 1 + 1, 5, none⟩) | _ => True) (fun _ wx => ∃ (a7 : Option Addr) (e7 : Nat) (ds : Array Value), Hid (OwnW (fun b => ((R1 b ∨ R2 b) ∧ b < w0.heap.size) ∨ w.heap.size + 3 < b) (w.heap.size + 3) wx (.slice a7 (K.length + 1) e7) (K ++ [(m[j].1, T.over X m[j].2, ds)])) ∧ Hid (BoxA wx (w.heap.size + 1 + 1 + 1) (.int .i64 5) (.bool false) (.int .i64 0) (.string ⟨#[]⟩) (.slice none 0 0) (.slice a7 (K.length + 1) e7)) ∧ Hid (∀ j, wx.frozen? ⟨w.heap.size + 1 + 1 + 1, j, none⟩ = false) ∧ Hid (∀ b, b < v.heap.size → b ≠ w.heap.size + 3 → wx.heap[b]? = v.heap[b]?) ∧ v.heap.size ≤ wx.heap.size ∧ Hid (Below w.heap.size w wx)) (by kernel_rfl) (by kernel_rfl) ?g1 (by decide) ⟨Nat.le_refl _, HBp.out.drew, fun _ _ _ => rfl⟩ (HKp.out.later (Below.refl _ _).drew) ?g2 ?g3 ?g4 ?g5 ?g6 ?g7 ?g8 ?g9 ?g10
                    case g1 => intro i' hi'; exact Nat.lt_of_lt_of_le (show 114 + i' < 125 by omega) (Nat.le_refl 125)
                    case g2 => exact fun w1 w2 hb ⟨h1, h2, h3⟩ => ⟨Nat.le_trans h1 hb.size, bstep h2 hb h2.size, fun b hb2 hn => (hb.block b (by omega)).trans (h3 b hb2 hn)⟩
                    case g3 => exact fun w1 w2 ⟨hg, hsz2⟩ ⟨h1, h2, h3⟩ => ⟨Nat.le_trans h1 hg.size, h2.grown hg h2.size (fun g hg2 => by have := (hobK g hg2).1; omega), fun b hb2 hn => (hg.block b (by omega) (fun e => hn e.symm)).trans (h3 b hb2 hn)⟩
                    case g4 => exact fun w1 w2 hb h => h.later hb
                    case g5 =>
                      intro i' x w1 w2 hip hR hU
                      obtain ⟨hg, hsz2⟩ := hR
                      have keepL : ∀ {Y : T} {ds : Array Value}, Lies w1 (fun b => ((R1 b ∨ R2 b) ∧ b < w0.heap.size) ∨ wp.heap.size ≤ b) Y ds → Lies w2 (fun b => ((R1 b ∨ R2 b) ∧ b < w0.heap.size) ∨ wp.heap.size ≤ b) Y ds := fun hl =>
                        (hl.keepB (fun b hRb hlt => hg.block b hlt (fun e => by
                          have := hobK _ e.symm
                          rcases hRb with h | h
                          · have := h.2; omega
                          · omega))).weaken fun b hb => hb.1
                      match i', hU with
                      | 5, ⟨ds, e, hl⟩ => exact ⟨ds, e, keepL hl⟩
                      | 6, ⟨ds, e, hl⟩ => exact ⟨ds, e, keepL hl⟩
                      | 7, ⟨g, ds, e, hc, hl, h1, h2⟩ => exact ⟨g, ds, e, fun j' u hu => (World.cell?_of_block (hg.block g h2 (fun e => by have := hobK _ e.symm; omega))).trans (hc j' u hu), keepL hl, h1, Nat.lt_of_lt_of_le h2 hg.size⟩
                      | 8, _ => exact absurd rfl hip
                      | 0, h | 1, h | 2, h | 3, h | 4, h | 9, h => exact h
                      | (n + 10), _ => trivial
                    case g6 =>
                      intro i' x w1 w2 hb hU
                      match i', hU with
                      | 5, ⟨ds, e, hl⟩ => exact ⟨ds, e, hl.later hb⟩
                      | 6, ⟨ds, e, hl⟩ => exact ⟨ds, e, hl.later hb⟩
                      | 7, ⟨g, ds, e, hc, hl, h1, h2⟩ => exact ⟨g, ds, e, fun j' u hu => (hb.cell (p := ⟨g, j', none⟩) h2).trans (hc j' u hu), hl.later hb, h1, Nat.lt_of_lt_of_le h2 hb.size⟩
                      | 8, ⟨a7, e7, ds, e, ho⟩ => exact ⟨a7, e7, ds, e, ho.later hb⟩
                      | 0, h | 1, h | 2, h | 3, h | 4, h | 9, h => exact h
                      | (n + 10), _ => trivial
                    case g7 =>
                      intro i' o ac wb K' ho hi' hip hA hB hdep hK
                      obtain ⟨hB1, hB2, hB3⟩ := hB
                      have s5 : ac.tmps[5]?.getD undef = .pointer (some ⟨w.heap.size + 1 + 1 + 1, 0, none⟩) := hA.sl (t := 5) (by decide)
                      have s8 : ac.tmps[8]?.getD undef = .string m[j].1 := hA.sl (t := 8) (by decide)
                      have s9 : ac.tmps[9]?.getD undef = .pointer (some ⟨wq.heap.size, 0, none⟩) := hA.sl (t := 9) (by decide)
                      have s10 : ac.tmps[10]?.getD undef = .pointer (some ⟨wq.heap.size + 1, 0, none⟩) := hA.sl (t := 10) (by decide)
                      have n2 := hB3 (w.heap.size + 3) hex (fun e => by have := (hobK _ e).1; omega)
                      have n9 := hB3 wq.heap.size (by omega) (fun e => by have := (hobK _ e).2; omega)
                      have n10 := hB3 (wq.heap.size + 1) (by omega) (fun e => by have := (hobK _ e).2; omega)
                      have k6 : wb.cell? ⟨w.heap.size + 1 + 1 + 1, 5, none⟩ = some (.slice al K.length cl') := (World.cell?_of_block n2).trans xo5
                      obtain ⟨xd0, xd1, xd2, xd3, xd4, xd5⟩ := XD.out
                      obtain ⟨xq0, xq1, xq2, xq3, xq4, xq5⟩ := XQ.out
                      have xd0 := (World.cell?_of_block (a := ⟨wq.heap.size, 0, none⟩) n9).trans xd0
                      have xd1 := (World.cell?_of_block (a := ⟨wq.heap.size, 1, none⟩) n9).trans xd1
                      have xd2 := (World.cell?_of_block (a := ⟨wq.heap.size, 2, none⟩) n9).trans xd2
                      have xd3 := (World.cell?_of_block (a := ⟨wq.heap.size, 3, none⟩) n9).trans xd3
                      have xd4 := (World.cell?_of_block (a := ⟨wq.heap.size, 4, none⟩) n9).trans xd4
                      have xd5 := (World.cell?_of_block (a := ⟨wq.heap.size, 5, none⟩) n9).trans xd5
                      have xq0 := (World.cell?_of_block (a := ⟨wq.heap.size + 1, 0, none⟩) n10).trans xq0
                      have xq1 := (World.cell?_of_block (a := ⟨wq.heap.size + 1, 1, none⟩) n10).trans xq1
                      have xq2 := (World.cell?_of_block (a := ⟨wq.heap.size + 1, 2, none⟩) n10).trans xq2
                      have xq3 := (World.cell?_of_block (a := ⟨wq.heap.size + 1, 3, none⟩) n10).trans xq3
                      have xq4 := (World.cell?_of_block (a := ⟨wq.heap.size + 1, 4, none⟩) n10).trans xq4
                      have xq5 := (World.cell?_of_block (a := ⟨wq.heap.size + 1, 5, none⟩) n10).trans xq5
                      clear n2 n9 n10 hB3 hA
                      rcases (by omega : i' = 0 ∨ i' = 1 ∨ i' = 2 ∨ i' = 3 ∨ i' = 4 ∨ i' = 5 ∨ i' = 6 ∨ i' = 7 ∨ i' = 9) with rfl | rfl | rfl | rfl | rfl | rfl | rfl | rfl | rfl
                      · simp at ho
                        subst ho
                        go_simp
                        exact hK _ wb (Below.refl _ _) rfl
                      · simp at ho
                        subst ho
                        have y0 : ac.tmps[114]?.getD undef = _ := hdep { on := 0, ground := .data } (by simp) rfl
                        go_simp
                        exact hK _ wb (Below.refl _ _) rfl
                      · simp at ho
                        subst ho
                        go_simp
                        exact hK _ wb (Below.refl _ _) rfl
                      · simp at ho
                        subst ho
                        go_simp
                        exact hK _ wb (Below.refl _ _) rfl
                      · simp at ho
                        subst ho
                        go_simp
                        exact hK _ wb (Below.refl _ _) rfl
                      · simp at ho
                        subst ho
                        have y0 : ac.tmps[117]?.getD undef = _ := hdep { on := 3, ground := .data } (by simp) rfl
                        have y1 : ac.tmps[118]?.getD undef = _ := hdep { on := 4, ground := .data } (by simp) rfl
                        go_simp
                        refine (IHJ.out R1 X #[.int .i64 0, .bool false, .int .i64 0, .string ⟨#[]⟩, .slice none 0 0, .slice none 0 0] HX.out wb (bstep hw hB2 hw.size) hXz hmzj).mono ?_
                        rintro e w' ⟨ds, rfl, hL, hb⟩
                        exact hK _ w' hb ⟨ds, rfl, hL.weaken fun b hb => hb.imp (fun h => ⟨h.1, h.2⟩) (fun h => Nat.le_trans hB1 h)⟩
                      · simp at ho
                        subst ho
                        obtain ⟨ds, y1, hL⟩ := hdep { on := 5, ground := .data } (by simp) rfl
                        obtain ⟨f0, f1, f2, f3, f4, f4l, f4c, f5, f5l, f5c, rfl⟩ := hL.six
                        have y0 : ac.tmps[116]?.getD undef = _ := hdep { on := 2, ground := .data } (by simp) rfl
                        have y1 : ac.tmps[119]?.getD undef = _ := y1
                        go_simp
                        exact hK _ wb (Below.refl _ _) ⟨#[.int .i64 f0, .bool f1, .int .i64 f2, .string f3, .slice f4 f4l f4c, .slice f5 f5l f5c], rfl, hL⟩
                      · simp at ho
                        subst ho
                        obtain ⟨ds, y1, hL⟩ := hdep { on := 6, ground := .data } (by simp) rfl
                        obtain ⟨f0, f1, f2, f3, f4, f4l, f4c, f5, f5l, f5c, rfl⟩ := hL.six
                        have y1 : ac.tmps[120]?.getD undef = .agg #[.string m[j].1, .int .i64 f0, .bool f1, .int .i64 f2, .string f3, .slice f4 f4l f4c, .slice f5 f5l f5c] := y1
                        go_simp
                        exact hK _ _ ((Below.refl _ _).alloc (Nat.le_refl _) _) ⟨wb.heap.size, #[.int .i64 f0, .bool f1, .int .i64 f2, .string f3, .slice f4 f4l f4c, .slice f5 f5l f5c], rfl, (fun j' u hu => by have := lit_cells wb #[.string m[j].1, .int .i64 f0, .bool f1, .int .i64 f2, .string f3, .slice f4 f4l f4c, .slice f5 f5l f5c] 51 j' u hu; rwa [Addr.add_lit, Nat.zero_add] at this), hL.later ((Below.refl _ _).alloc (Nat.le_refl _) _), hB1, by simp⟩
                      · simp at ho
                        subst ho
                        go_simp
                        exact hK _ wb (Below.refl _ _) rfl
                    case g8 =>
                      intro o ac wb K' ho hA hB hG hdep hK
                      obtain ⟨hB1, hB2, hB3⟩ := hB
                      simp at ho
                      subst ho
                      have y0 : ac.tmps[115]?.getD undef = .slice al K.length cl' := hdep { on := 1, ground := .data } (by simp) rfl
                      obtain ⟨g, ds, y1, hgc, hL, h1, h2⟩ := hdep { on := 7, ground := .data } (by simp) rfl
                      obtain ⟨f0, f1, f2, f3, f4, f4l, f4c, f5, f5l, f5c, rfl⟩ := hL.six
                      have y1 : ac.tmps[121]?.getD undef = .slice (some ⟨g, 0, none⟩) 1 1 := y1
                      have hL2 : Lies wb (fun b => (((R1 b ∨ R2 b) ∧ b < w0.heap.size) ∨ w.heap.size + 3 < b) ∧ b < wb.heap.size ∧ (Value.slice al K.length cl').ownBlock ≠ some b ∧ b ≠ w.heap.size + 3) (T.over X m[j].2) #[.int .i64 f0, .bool f1, .int .i64 f2, .string f3, .slice f4 f4l f4c, .slice f5 f5l f5c] := hL.bound.weaken fun b hb => by
                        obtain ⟨hb, hlt⟩ := hb
                        rcases hb with h | h
                        · exact ⟨.inl h, hlt, fun e => by have := hobK _ e; have := h.2; omega, by have := h.2; omega⟩
                        · exact ⟨.inr (by omega), hlt, fun e => by have := hobK _ e; omega, by omega⟩
                      refine wp_append_own rfl (.tmp 115) (.tmp 121) 23 rfl (w.heap.size + 3 + 1) 51 i0 _ 7 104 Tryz.underlying23 HI0.out HZ0.out HZ1.out HZ2.out (by rfl) (by decide) (.slice al K.length cl') K.length _ (by first | exact y0 | (simp [Act.eval]; exact y0) | (go_simp)) hG.own ⟨g, 0, none⟩ 1 1 (#[Value.string m[j].1, .int .i64 f0, .bool f1, .int .i64 f2, .string f3, .slice f4 f4l f4c, .slice f5 f5l f5c] : Array Value).toList (by first | exact y1 | (simp [Act.eval]; exact y1) | (go_simp)) rfl (fun j' u hu => by rw [Addr.add_lit, Nat.zero_add]; exact hgc j' u hu) (fun u hu => by
                        simp at hu
                        rcases hu with rfl | rfl | rfl | rfl | rfl | rfl | rfl <;> rfl) (by unfold maxLen; omega) (by omega) (by omega) ?_
                      intro v5 w5 own5 hg5 hob5
                      obtain ⟨a5, e5, rfl⟩ := row_form own5
                      exact hK _ w5 ⟨hg5, hB1⟩ ⟨a5, e5, #[.int .i64 f0, .bool f1, .int .i64 f2, .string f3, .slice f4 f4l f4c, .slice f5 f5l f5c], rfl, hG.one hL2 hko own5 hg5 hob5⟩
                    case g9 =>
                      intro o ac wb K' ho hA hB hU hK
                      obtain ⟨hB1, hB2, hB3⟩ := hB
                      simp at ho
                      subst ho
                      have n2 := hB3 (w.heap.size + 3) hex (fun e => by have := (hobK _ e).1; omega)
                      have k5 : wb.cell? ⟨w.heap.size + 1 + 1 + 1, 5, none⟩ = some (.slice al K.length cl') := (World.cell?_of_block n2).trans xo5
                      have kf : ∀ j, wb.frozen? ⟨w.heap.size + 1 + 1 + 1, j, none⟩ = false := fun j => (World.frozen?_of_block n2).trans (FZp.out j)
                      obtain ⟨a7, e7, ds, y17, hO⟩ := hU 8 (by omega)
                      have y17 : ac.tmps[122]?.getD undef = _ := y17
                      have y18 : ac.tmps[123]?.getD undef = _ := hU 9 (by omega)
                      have B5 : BoxA wb (w.heap.size + 3) (.int .i64 5) (.bool false) (.int .i64 0) (.string ⟨#[]⟩) (.slice none 0 0) (.slice al K.length cl') := ⟨(World.cell?_of_block n2).trans xo0, (World.cell?_of_block n2).trans xo1, (World.cell?_of_block n2).trans xo2, (World.cell?_of_block n2).trans xo3, (World.cell?_of_block n2).trans xo4, k5⟩
                      go_simp
                      refine hK _ ⟨a7, e7, ds, hO.keep (fun b _ hne => setRow_heap (w.heap.size + 3) [.slice a7 (K.length + 1) e7] wb 5 b hne) (Nat.le_of_eq (setRow_size (w.heap.size + 3) [.slice a7 (K.length + 1) e7] wb 5).symm), setRow_boxA (.slice a7 (K.length + 1) e7) B5, fun j => (setRow_frozen (w.heap.size + 3) [.slice a7 (K.length + 1) e7] wb 5 _).trans (kf j), fun b hb hne => (setRow_heap (w.heap.size + 3) [.slice a7 (K.length + 1) e7] wb 5 b hne).trans ?_, ?_, setRow_below (w.heap.size + 3) (by omega) [.slice a7 (K.length + 1) e7] wb 5 hB2⟩
                      · exact (hB3 b (by omega) (fun e => by have := (hobK _ e).1; omega)).trans (KPp.out b hb hne)
                      · have := setRow_size (w.heap.size + 3) [.slice a7 (K.length + 1) e7] wb 5
                        exact Nat.le_trans (by omega : v.heap.size ≤ wb.heap.size) (Nat.le_of_eq this.symm)
                    case g10 =>
                      intro ac wn hA ⟨a7, e7, ds, HKn, BOn, FZn, KPn, SZn, HBn⟩
                      have hlen : (K ++ [(m[j].1, T.over X m[j].2, ds)]).length = K.length + 1 := by rw [List.length_append]; rfl
                      have HE3 := Lib.hid (HE2.out ds)
                      obtain ⟨K6, eK6⟩ : ∃ K6, K6 = K ++ [(m[j].1, T.over X m[j].2, ds)] := ⟨_, rfl⟩
                      rw [← eK6] at HKn HE3 hlen
                      rw [← hlen] at HKn BOn
                      have hs : slots 10 (fun i => 114 + i) = [114, 115, 116, 117, 118, 119, 120, 121, 122, 123] := by rfl
                      rw [hs] at hA
                      have hac := hA.act (fun t ht => by
                        have h8 : t = 114 ∨ t = 115 ∨ t = 116 ∨ t = 117 ∨ t = 118 ∨ t = 119 ∨ t = 120 ∨ t = 121 ∨ t = 122 ∨ t = 123 := by simpa using ht
                        rcases h8 with rfl | rfl | rfl | rfl | rfl | rfl | rfl | rfl | rfl | rfl <;> exact Nat.lt_of_lt_of_le (by decide : _ < 125) (Nat.le_refl 125))
                      rw [List.foldl_cons, List.foldl_cons, List.foldl_cons, List.foldl_cons, List.foldl_cons, List.foldl_cons, List.foldl_cons, List.foldl_cons, List.foldl_cons, List.foldl_cons, List.foldl_nil] at hac
                      generalize sl ac 114 = x114 at hac
                      generalize sl ac 115 = x115 at hac
                      generalize sl ac 116 = x116 at hac
                      generalize sl ac 117 = x117 at hac
                      generalize sl ac 118 = x118 at hac
                      generalize sl ac 119 = x119 at hac
                      generalize sl ac 120 = x120 at hac
                      generalize sl ac 121 = x121 at hac
                      generalize sl ac 122 = x122 at hac
                      generalize sl ac 123 = x123 at hac
                      clear hA hs eK6 HE2 HKp BOp FZp KPp HBp hobK hex xo0 xo1 xo2 xo3 xo4 xo5 XD XQ HX
                      subst hac
                      simp only [Act.put, List.setIfInBounds_toArray, List.set_cons_succ, List.set_cons_zero]
                      go_wp2_with fail
                      go_roundw
                      case rel => exact ⟨i, j + 1, a7, e7, K6, by omega, by omega, by go_num, by go_num, HKn, HE3, by omega, BOn, FZn, KPn, SZn, HBn⟩
                      case measure => simp [intOf]; omega
              · obtain rfl : i = m1.length := by omega
                have g2 : ((j : Int) == (m.length : Int)) = false := beq_eq_false_iff_ne.2 (by omega)
                clear hWw hkp hleft
                go_upto_region 6 with fail
                go_quiet (fail)
                have bq := bdrewN (Below.refl wr.heap.size wr) nq
                have HKq := Lib.hid (HK.out.later bq)
                have BOq : Hid (BoxA (wr.drewN nq) (w.heap.size + 1 + 1 + 1) (.int .i64 5) (.bool false) (.int .i64 0) (.string ⟨#[]⟩) (.slice none 0 0) (.slice al K.length cl')) := BO.out
                have FZq : Hid (∀ j, (wr.drewN nq).frozen? ⟨w.heap.size + 1 + 1 + 1, j, none⟩ = false) := FZ.out
                have KPq : Hid (∀ b, b < v.heap.size → b ≠ w.heap.size + 3 → (wr.drewN nq).heap[b]? = v.heap[b]?) := KP.out
                have SZq : v.heap.size ≤ (wr.drewN nq).heap.size := SZ
                have HBq : Hid (Below w.heap.size w (wr.drewN nq)) := bdrewN HB.out nq
                have xk1 : (wr.drewN nq).cell? ⟨w.heap.size, 5, none⟩ = _ := xk1
                have xk2 : (wr.drewN nq).cell? ⟨w.heap.size + 1, 5, none⟩ = _ := xk2
                have p0 : (wr.drewN nq).cell? ⟨bm, om + j * 7, none⟩ = _ := p0
                have p1 : (wr.drewN nq).cell? ⟨bm, om + j * 7 + 1, none⟩ = _ := p1
                have p2 : (wr.drewN nq).cell? ⟨bm, om + j * 7 + 2, none⟩ = _ := p2
                have p3 : (wr.drewN nq).cell? ⟨bm, om + j * 7 + 3, none⟩ = _ := p3
                have p4 : (wr.drewN nq).cell? ⟨bm, om + j * 7 + 4, none⟩ = _ := p4
                have p5 : (wr.drewN nq).cell? ⟨bm, om + j * 7 + 5, none⟩ = _ := p5
                have p6 : (wr.drewN nq).cell? ⟨bm, om + j * 7 + 6, none⟩ = _ := p6
                clear HK BO FZ KP SZ HB bq
                generalize wr.drewN nq = wq at *
                have hsz := SZq
                have hw00 := hw.size
                have hq0 : w.heap.size < wq.heap.size := by omega
                have xk1a : ∀ Z1 Z2 : Obj, ((wq.alloc Z1).alloc Z2).cell? ⟨w.heap.size, 5, none⟩ = some (.slice ma1 m1.length mc1) := fun Z1 Z2 => (((Below.refl wq.heap.size wq).alloc (Nat.le_refl _) Z1).alloc (by simp) Z2).cell (p := ⟨w.heap.size, 5, none⟩) hq0 |>.trans xk1
                go_upto_region 16 with fail
                have b3 := (((Below.refl wq.heap.size wq).alloc (Nat.le_refl _) (.cells #[.int .i64 d0, .bool d1, .int .i64 d2, .string d3, .slice d4 d4l d4c, .slice d5 d5l d5c] 25)).alloc (by simp) (.cells #[.int .i64 0, .bool false, .int .i64 0, .string ⟨#[]⟩, .slice none 0 0, .slice none 0 0] 25))
                have sW : ((wq.alloc (.cells #[.int .i64 d0, .bool d1, .int .i64 d2, .string d3, .slice d4 d4l d4c, .slice d5 d5l d5c] 25)).alloc (.cells #[.int .i64 0, .bool false, .int .i64 0, .string ⟨#[]⟩, .slice none 0 0, .slice none 0 0] 25)).heap.size = wq.heap.size + 2 := by simp
                obtain ⟨v9, v10⟩ := box_two wq (.int .i64 d0) (.bool d1) (.int .i64 d2) (.string d3) (.slice d4 d4l d4c) (.slice d5 d5l d5c) (.int .i64 0) (.bool false) (.int .i64 0) (.string ⟨#[]⟩) (.slice none 0 0) (.slice none 0 0) 25 25
                have HBp : Hid (Below w.heap.size w ((wq.alloc (.cells #[.int .i64 d0, .bool d1, .int .i64 d2, .string d3, .slice d4 d4l d4c, .slice d5 d5l d5c] 25)).alloc (.cells #[.int .i64 0, .bool false, .int .i64 0, .string ⟨#[]⟩, .slice none 0 0, .slice none 0 0] 25))) := bstep HBq.out b3 HBq.out.size
                have HKp := Lib.hid (HKq.out.later b3)
                have BOp : Hid (BoxA ((wq.alloc (.cells #[.int .i64 d0, .bool d1, .int .i64 d2, .string d3, .slice d4 d4l d4c, .slice d5 d5l d5c] 25)).alloc (.cells #[.int .i64 0, .bool false, .int .i64 0, .string ⟨#[]⟩, .slice none 0 0, .slice none 0 0] 25)) (w.heap.size + 1 + 1 + 1) (.int .i64 5) (.bool false) (.int .i64 0) (.string ⟨#[]⟩) (.slice none 0 0) (.slice al K.length cl')) := Lib.hid (BOq.out.block (b3.block (w.heap.size + 1 + 1 + 1) (by omega)))
                have FZp : Hid (∀ j, ((wq.alloc (.cells #[.int .i64 d0, .bool d1, .int .i64 d2, .string d3, .slice d4 d4l d4c, .slice d5 d5l d5c] 25)).alloc (.cells #[.int .i64 0, .bool false, .int .i64 0, .string ⟨#[]⟩, .slice none 0 0, .slice none 0 0] 25)).frozen? ⟨w.heap.size + 1 + 1 + 1, j, none⟩ = false) := fun j => (World.frozen?_of_block (a := ⟨w.heap.size + 1 + 1 + 1, j, none⟩) (b3.block (w.heap.size + 1 + 1 + 1) (by omega))).trans (FZq.out j)
                have KPp : Hid (∀ b, b < v.heap.size → b ≠ w.heap.size + 3 → ((wq.alloc (.cells #[.int .i64 d0, .bool d1, .int .i64 d2, .string d3, .slice d4 d4l d4c, .slice d5 d5l d5c] 25)).alloc (.cells #[.int .i64 0, .bool false, .int .i64 0, .string ⟨#[]⟩, .slice none 0 0, .slice none 0 0] 25)).heap[b]? = v.heap[b]?) := fun b hb hn => (b3.block b (by omega)).trans (KPq.out b hb hn)
                have SZp : v.heap.size ≤ ((wq.alloc (.cells #[.int .i64 d0, .bool d1, .int .i64 d2, .string d3, .slice d4 d4l d4c, .slice d5 d5l d5c] 25)).alloc (.cells #[.int .i64 0, .bool false, .int .i64 0, .string ⟨#[]⟩, .slice none 0 0, .slice none 0 0] 25)).heap.size := by omega
                have sP : wq.heap.size + 1 < ((wq.alloc (.cells #[.int .i64 d0, .bool d1, .int .i64 d2, .string d3, .slice d4 d4l d4c, .slice d5 d5l d5c] 25)).alloc (.cells #[.int .i64 0, .bool false, .int .i64 0, .string ⟨#[]⟩, .slice none 0 0, .slice none 0 0] 25)).heap.size := by omega
                have HOB : Hid (∀ g, (Value.slice al K.length cl').ownBlock = some g → w.heap.size + 3 < g ∧ g < wq.heap.size) := fun g hg => HKq.out.block hg
                have XD := Lib.hid v9
                have XQ := Lib.hid v10
                clear b3 sW v9 v10 HKq BOq FZq KPq SZq HBq xk1a
                generalize ((wq.alloc (.cells #[.int .i64 d0, .bool d1, .int .i64 d2, .string d3, .slice d4 d4l d4c, .slice d5 d5l d5c] 25)).alloc (.cells #[.int .i64 0, .bool false, .int .i64 0, .string ⟨#[]⟩, .slice none 0 0, .slice none 0 0] 25)) = wp at *
                obtain ⟨X, HX, hXz, HR⟩ : ∃ X, Hid (Lies w0 R1 X #[.int .i64 0, .bool false, .int .i64 0, .string ⟨#[]⟩, .slice none 0 0, .slice none 0 0]) ∧ X.size ≤ 1000000 ∧ Hid (overR (m1.drop (m1.length)) (m.drop j) = (if m[j].2.kind = 0 then [] else [(m[j].1, T.over X m[j].2)]) ++ overR (m1.drop (m1.length)) (m.drop (j + 1))) := ⟨T.nil, nil_lies w0 R1, by show T.size (.mk 0 false 0 ⟨#[]⟩ [] []) ≤ _; rw [T.size_mk]; simp, over_right_at m1 m (m1.length) j hjl (fun h => absurd h (by omega))⟩
                by_cases hd0 : d0 = 0
                · have f1 : (d0 != 0) = false := by simp [hd0]
                  have HE2 : Hid (K.map strip ++ overR (m1.drop (m1.length)) (m.drop (j + 1)) = overR m1 m) := by
                    show _ = _
                    rw [← HE.out, HR.out, if_pos (kj.trans hd0), List.nil_append]
                  obtain ⟨xd0, xd1, xd2, xd3, xd4, xd5⟩ := XD.out
                  clear hd0 kj HR XQ HX HE
                  go_wp2_with fail
                  go_roundw
                  case rel => exact ⟨m1.length, j + 1, al, cl', K, by omega, by omega, by go_num, by go_num, HKp, HE2, by omega, BOp, FZp, KPp, SZp, HBp⟩
                  case measure => simp [intOf]; omega
                · have f1 : (d0 != 0) = true := by simp [hd0]
                  have HE2 : Hid (∀ ds : Array Value, (K ++ [(m[j].1, T.over X m[j].2, ds)]).map strip ++ overR (m1.drop (m1.length)) (m.drop (j + 1)) = overR m1 m) := fun ds => by
                    rw [← HE.out, HR.out, if_neg (by rw [kj]; exact hd0), List.map_append, List.append_assoc]
                    rfl
                  have xd0 := XD.out.1
                  clear hd0 kj HR HE
                  go_upto_region 17 with fail
                  clear xd0
                  obtain ⟨xo0, xo1, xo2, xo3, xo4, xo5⟩ := BOp.out
                  have hex := World.block_lt_of_cell? _ _ xo5
                  have hobK := HOB.out
                  have hw0 := hw.size
                  refine wp_region_grows (fun wx => wp.heap.size ≤ wx.heap.size ∧ Below w.heap.size w wx ∧ ∀ b, b < wp.heap.size → (Value.slice al K.length cl').ownBlock ≠ some b → wx.heap[b]? = wp.heap[b]?) (fun wx => OwnW (fun b => ((R1 b ∨ R2 b) ∧ b < w0.heap.size) ∨ w.heap.size + 3 < b) (w.heap.size + 3) wx (.slice al K.length cl') K) (fun w1 w2 => w1.grownBy w2 (Value.slice al K.length cl').ownBlock ∧ wp.heap.size ≤ w1.heap.size) 8 10 (fun i => 114 + i) (fun i' x wx => match i' with
                      | 0 => x = .pointer (some ⟨w.heap.size + 1 + 1 + 1, 5, none⟩) | 1 => x = .slice al K.length cl' | 2 => x = .string m[j].1 | 3 => x = .agg #[.int .i64 0, .bool false, .int .i64 0, .string ⟨#[]⟩, .slice none 0 0, .slice none 0 0] | 4 => x = .agg #[.int .i64 d0, .bool d1, .int .i64 d2, .string d3, .slice d4 d4l d4c, .slice d5 d5l d5c]
                      | 5 => ∃ ds : Array Value, x = .agg ds ∧ Lies wx (fun b => ((R1 b ∨ R2 b) ∧ b < w0.heap.size) ∨ wp.heap.size ≤ b) (T.over X m[j].2) ds
                      | 6 => ∃ ds : Array Value, x = .agg (#[Value.string m[j].1] ++ ds) ∧ Lies wx (fun b => ((R1 b ∨ R2 b) ∧ b < w0.heap.size) ∨ wp.heap.size ≤ b) (T.over X m[j].2) ds
                      | 7 => ∃ (g : Nat) (ds : Array Value), x = .slice (some ⟨g, 0, none⟩) 1 1 ∧ (∀ j' u, (#[Value.string m[j].1] ++ ds).toList[j']? = some u → wx.cell? ⟨g, j', none⟩ = some u) ∧ Lies wx (fun b => ((R1 b ∨ R2 b) ∧ b < w0.heap.size) ∨ wp.heap.size ≤ b) (T.over X m[j].2) ds ∧ wp.heap.size ≤ g ∧ g < wx.heap.size
                      | 8 => ∃ (a7 : Option Addr) (e7 : Nat) (ds : Array Value), x = .slice a7 (K.length + 1) e7 ∧ OwnW (fun b => ((R1 b ∨ R2 b) ∧ b < w0.heap.size) ∨ w.heap.size + 3 < b) (w.heap.size + 3) wx (.slice a7 (K.length + 1) e7) (K ++ [(m[j].1, T.over X m[j].2, ds)])
                      | 9 => x = .pointer (some ⟨w.heap.size + 1 + 1 + 1, 5, none⟩) | _ => True) (fun _ wx => ∃ (a7 : Option Addr) (e7 : Nat) (ds : Array Value), Hid (OwnW (fun b => ((R1 b ∨ R2 b) ∧ b < w0.heap.size) ∨ w.heap.size + 3 < b) (w.heap.size + 3) wx (.slice a7 (K.length + 1) e7) (K ++ [(m[j].1, T.over X m[j].2, ds)])) ∧ Hid (BoxA wx (w.heap.size + 1 + 1 + 1) (.int .i64 5) (.bool false) (.int .i64 0) (.string ⟨#[]⟩) (.slice none 0 0) (.slice a7 (K.length + 1) e7)) ∧ Hid (∀ j, wx.frozen? ⟨w.heap.size + 1 + 1 + 1, j, none⟩ = false) ∧ Hid (∀ b, b < v.heap.size → b ≠ w.heap.size + 3 → wx.heap[b]? = v.heap[b]?) ∧ v.heap.size ≤ wx.heap.size ∧ Hid (Below w.heap.size w wx)) (by kernel_rfl) (by kernel_rfl) ?g1 (by decide) ⟨Nat.le_refl _, HBp.out.drew, fun _ _ _ => rfl⟩ (HKp.out.later (Below.refl _ _).drew) ?g2 ?g3 ?g4 ?g5 ?g6 ?g7 ?g8 ?g9 ?g10
                  case g1 => intro i' hi'; exact Nat.lt_of_lt_of_le (show 114 + i' < 125 by omega) (Nat.le_refl 125)
                  case g2 => exact fun w1 w2 hb ⟨h1, h2, h3⟩ => ⟨Nat.le_trans h1 hb.size, bstep h2 hb h2.size, fun b hb2 hn => (hb.block b (by omega)).trans (h3 b hb2 hn)⟩
                  case g3 => exact fun w1 w2 ⟨hg, hsz2⟩ ⟨h1, h2, h3⟩ => ⟨Nat.le_trans h1 hg.size, h2.grown hg h2.size (fun g hg2 => by have := (hobK g hg2).1; omega), fun b hb2 hn => (hg.block b (by omega) (fun e => hn e.symm)).trans (h3 b hb2 hn)⟩
                  case g4 => exact fun w1 w2 hb h => h.later hb
                  case g5 =>
                    intro i' x w1 w2 hip hR hU
                    obtain ⟨hg, hsz2⟩ := hR
                    have keepL : ∀ {Y : T} {ds : Array Value}, Lies w1 (fun b => ((R1 b ∨ R2 b) ∧ b < w0.heap.size) ∨ wp.heap.size ≤ b) Y ds → Lies w2 (fun b => ((R1 b ∨ R2 b) ∧ b < w0.heap.size) ∨ wp.heap.size ≤ b) Y ds := fun hl =>
                      (hl.keepB (fun b hRb hlt => hg.block b hlt (fun e => by
                        have := hobK _ e.symm
                        rcases hRb with h | h
                        · have := h.2; omega
                        · omega))).weaken fun b hb => hb.1
                    match i', hU with
                    | 5, ⟨ds, e, hl⟩ => exact ⟨ds, e, keepL hl⟩
                    | 6, ⟨ds, e, hl⟩ => exact ⟨ds, e, keepL hl⟩
                    | 7, ⟨g, ds, e, hc, hl, h1, h2⟩ => exact ⟨g, ds, e, fun j' u hu => (World.cell?_of_block (hg.block g h2 (fun e => by have := hobK _ e.symm; omega))).trans (hc j' u hu), keepL hl, h1, Nat.lt_of_lt_of_le h2 hg.size⟩
                    | 8, _ => exact absurd rfl hip
                    | 0, h | 1, h | 2, h | 3, h | 4, h | 9, h => exact h
                    | (n + 10), _ => trivial
                  case g6 =>
                    intro i' x w1 w2 hb hU
                    match i', hU with
                    | 5, ⟨ds, e, hl⟩ => exact ⟨ds, e, hl.later hb⟩
                    | 6, ⟨ds, e, hl⟩ => exact ⟨ds, e, hl.later hb⟩
                    | 7, ⟨g, ds, e, hc, hl, h1, h2⟩ => exact ⟨g, ds, e, fun j' u hu => (hb.cell (p := ⟨g, j', none⟩) h2).trans (hc j' u hu), hl.later hb, h1, Nat.lt_of_lt_of_le h2 hb.size⟩
                    | 8, ⟨a7, e7, ds, e, ho⟩ => exact ⟨a7, e7, ds, e, ho.later hb⟩
                    | 0, h | 1, h | 2, h | 3, h | 4, h | 9, h => exact h
                    | (n + 10), _ => trivial
                  case g7 =>
                    intro i' o ac wb K' ho hi' hip hA hB hdep hK
                    obtain ⟨hB1, hB2, hB3⟩ := hB
                    have s5 : ac.tmps[5]?.getD undef = .pointer (some ⟨w.heap.size + 1 + 1 + 1, 0, none⟩) := hA.sl (t := 5) (by decide)
                    have s8 : ac.tmps[8]?.getD undef = .string m[j].1 := hA.sl (t := 8) (by decide)
                    have s9 : ac.tmps[9]?.getD undef = .pointer (some ⟨wq.heap.size, 0, none⟩) := hA.sl (t := 9) (by decide)
                    have s10 : ac.tmps[10]?.getD undef = .pointer (some ⟨wq.heap.size + 1, 0, none⟩) := hA.sl (t := 10) (by decide)
                    have n2 := hB3 (w.heap.size + 3) hex (fun e => by have := (hobK _ e).1; omega)
                    have n9 := hB3 wq.heap.size (by omega) (fun e => by have := (hobK _ e).2; omega)
                    have n10 := hB3 (wq.heap.size + 1) (by omega) (fun e => by have := (hobK _ e).2; omega)
                    have k6 : wb.cell? ⟨w.heap.size + 1 + 1 + 1, 5, none⟩ = some (.slice al K.length cl') := (World.cell?_of_block n2).trans xo5
                    obtain ⟨xd0, xd1, xd2, xd3, xd4, xd5⟩ := XD.out
                    obtain ⟨xq0, xq1, xq2, xq3, xq4, xq5⟩ := XQ.out
                    have xd0 := (World.cell?_of_block (a := ⟨wq.heap.size, 0, none⟩) n9).trans xd0
                    have xd1 := (World.cell?_of_block (a := ⟨wq.heap.size, 1, none⟩) n9).trans xd1
                    have xd2 := (World.cell?_of_block (a := ⟨wq.heap.size, 2, none⟩) n9).trans xd2
                    have xd3 := (World.cell?_of_block (a := ⟨wq.heap.size, 3, none⟩) n9).trans xd3
                    have xd4 := (World.cell?_of_block (a := ⟨wq.heap.size, 4, none⟩) n9).trans xd4
                    have xd5 := (World.cell?_of_block (a := ⟨wq.heap.size, 5, none⟩) n9).trans xd5
                    have xq0 := (World.cell?_of_block (a := ⟨wq.heap.size + 1, 0, none⟩) n10).trans xq0
                    have xq1 := (World.cell?_of_block (a := ⟨wq.heap.size + 1, 1, none⟩) n10).trans xq1
                    have xq2 := (World.cell?_of_block (a := ⟨wq.heap.size + 1, 2, none⟩) n10).trans xq2
                    have xq3 := (World.cell?_of_block (a := ⟨wq.heap.size + 1, 3, none⟩) n10).trans xq3
                    have xq4 := (World.cell?_of_block (a := ⟨wq.heap.size + 1, 4, none⟩) n10).trans xq4
                    have xq5 := (World.cell?_of_block (a := ⟨wq.heap.size + 1, 5, none⟩) n10).trans xq5
                    clear n2 n9 n10 hB3 hA
                    rcases (by omega : i' = 0 ∨ i' = 1 ∨ i' = 2 ∨ i' = 3 ∨ i' = 4 ∨ i' = 5 ∨ i' = 6 ∨ i' = 7 ∨ i' = 9) with rfl | rfl | rfl | rfl | rfl | rfl | rfl | rfl | rfl
                    · simp at ho
                      subst ho
                      go_simp
                      exact hK _ wb (Below.refl _ _) rfl
                    · simp at ho
                      subst ho
                      have y0 : ac.tmps[114]?.getD undef = _ := hdep { on := 0, ground := .data } (by simp) rfl
                      go_simp
                      exact hK _ wb (Below.refl _ _) rfl
                    · simp at ho
                      subst ho
                      go_simp
                      exact hK _ wb (Below.refl _ _) rfl
                    · simp at ho
                      subst ho
                      go_simp
                      exact hK _ wb (Below.refl _ _) rfl
                    · simp at ho
                      subst ho
                      go_simp
                      exact hK _ wb (Below.refl _ _) rfl
                    · simp at ho
                      subst ho
                      have y0 : ac.tmps[117]?.getD undef = _ := hdep { on := 3, ground := .data } (by simp) rfl
                      have y1 : ac.tmps[118]?.getD undef = _ := hdep { on := 4, ground := .data } (by simp) rfl
                      go_simp
                      refine (IHJ.out R1 X #[.int .i64 0, .bool false, .int .i64 0, .string ⟨#[]⟩, .slice none 0 0, .slice none 0 0] HX.out wb (bstep hw hB2 hw.size) hXz hmzj).mono ?_
                      rintro e w' ⟨ds, rfl, hL, hb⟩
                      exact hK _ w' hb ⟨ds, rfl, hL.weaken fun b hb => hb.imp (fun h => ⟨h.1, h.2⟩) (fun h => Nat.le_trans hB1 h)⟩
                    · simp at ho
                      subst ho
                      obtain ⟨ds, y1, hL⟩ := hdep { on := 5, ground := .data } (by simp) rfl
                      obtain ⟨f0, f1, f2, f3, f4, f4l, f4c, f5, f5l, f5c, rfl⟩ := hL.six
                      have y0 : ac.tmps[116]?.getD undef = _ := hdep { on := 2, ground := .data } (by simp) rfl
                      have y1 : ac.tmps[119]?.getD undef = _ := y1
                      go_simp
                      exact hK _ wb (Below.refl _ _) ⟨#[.int .i64 f0, .bool f1, .int .i64 f2, .string f3, .slice f4 f4l f4c, .slice f5 f5l f5c], rfl, hL⟩
                    · simp at ho
                      subst ho
                      obtain ⟨ds, y1, hL⟩ := hdep { on := 6, ground := .data } (by simp) rfl
                      obtain ⟨f0, f1, f2, f3, f4, f4l, f4c, f5, f5l, f5c, rfl⟩ := hL.six
                      have y1 : ac.tmps[120]?.getD undef = .agg #[.string m[j].1, .int .i64 f0, .bool f1, .int .i64 f2, .string f3, .slice f4 f4l f4c, .slice f5 f5l f5c] := y1
                      go_simp
                      exact hK _ _ ((Below.refl _ _).alloc (Nat.le_refl _) _) ⟨wb.heap.size, #[.int .i64 f0, .bool f1, .int .i64 f2, .string f3, .slice f4 f4l f4c, .slice f5 f5l f5c], rfl, (fun j' u hu => by have := lit_cells wb #[.string m[j].1, .int .i64 f0, .bool f1, .int .i64 f2, .string f3, .slice f4 f4l f4c, .slice f5 f5l f5c] 51 j' u hu; rwa [Addr.add_lit, Nat.zero_add] at this), hL.later ((Below.refl _ _).alloc (Nat.le_refl _) _), hB1, by simp⟩
                    · simp at ho
                      subst ho
                      go_simp
                      exact hK _ wb (Below.refl _ _) rfl
                  case g8 =>
                    intro o ac wb K' ho hA hB hG hdep hK
                    obtain ⟨hB1, hB2, hB3⟩ := hB
                    simp at ho
                    subst ho
                    have y0 : ac.tmps[115]?.getD undef = .slice al K.length cl' := hdep { on := 1, ground := .data } (by simp) rfl
                    obtain ⟨g, ds, y1, hgc, hL, h1, h2⟩ := hdep { on := 7, ground := .data } (by simp) rfl
                    obtain ⟨f0, f1, f2, f3, f4, f4l, f4c, f5, f5l, f5c, rfl⟩ := hL.six
                    have y1 : ac.tmps[121]?.getD undef = .slice (some ⟨g, 0, none⟩) 1 1 := y1
                    have hL2 : Lies wb (fun b => (((R1 b ∨ R2 b) ∧ b < w0.heap.size) ∨ w.heap.size + 3 < b) ∧ b < wb.heap.size ∧ (Value.slice al K.length cl').ownBlock ≠ some b ∧ b ≠ w.heap.size + 3) (T.over X m[j].2) #[.int .i64 f0, .bool f1, .int .i64 f2, .string f3, .slice f4 f4l f4c, .slice f5 f5l f5c] := hL.bound.weaken fun b hb => by
                      obtain ⟨hb, hlt⟩ := hb
                      rcases hb with h | h
                      · exact ⟨.inl h, hlt, fun e => by have := hobK _ e; have := h.2; omega, by have := h.2; omega⟩
                      · exact ⟨.inr (by omega), hlt, fun e => by have := hobK _ e; omega, by omega⟩
                    refine wp_append_own rfl (.tmp 115) (.tmp 121) 23 rfl (w.heap.size + 3 + 1) 51 i0 _ 7 104 Tryz.underlying23 HI0.out HZ0.out HZ1.out HZ2.out (by rfl) (by decide) (.slice al K.length cl') K.length _ (by first | exact y0 | (simp [Act.eval]; exact y0) | (go_simp)) hG.own ⟨g, 0, none⟩ 1 1 (#[Value.string m[j].1, .int .i64 f0, .bool f1, .int .i64 f2, .string f3, .slice f4 f4l f4c, .slice f5 f5l f5c] : Array Value).toList (by first | exact y1 | (simp [Act.eval]; exact y1) | (go_simp)) rfl (fun j' u hu => by rw [Addr.add_lit, Nat.zero_add]; exact hgc j' u hu) (fun u hu => by
                      simp at hu
                      rcases hu with rfl | rfl | rfl | rfl | rfl | rfl | rfl <;> rfl) (by unfold maxLen; omega) (by omega) (by omega) ?_
                    intro v5 w5 own5 hg5 hob5
                    obtain ⟨a5, e5, rfl⟩ := row_form own5
                    exact hK _ w5 ⟨hg5, hB1⟩ ⟨a5, e5, #[.int .i64 f0, .bool f1, .int .i64 f2, .string f3, .slice f4 f4l f4c, .slice f5 f5l f5c], rfl, hG.one hL2 hko own5 hg5 hob5⟩
                  case g9 =>
                    intro o ac wb K' ho hA hB hU hK
                    obtain ⟨hB1, hB2, hB3⟩ := hB
                    simp at ho
                    subst ho
                    have n2 := hB3 (w.heap.size + 3) hex (fun e => by have := (hobK _ e).1; omega)
                    have k5 : wb.cell? ⟨w.heap.size + 1 + 1 + 1, 5, none⟩ = some (.slice al K.length cl') := (World.cell?_of_block n2).trans xo5
                    have kf : ∀ j, wb.frozen? ⟨w.heap.size + 1 + 1 + 1, j, none⟩ = false := fun j => (World.frozen?_of_block n2).trans (FZp.out j)
                    obtain ⟨a7, e7, ds, y17, hO⟩ := hU 8 (by omega)
                    have y17 : ac.tmps[122]?.getD undef = _ := y17
                    have y18 : ac.tmps[123]?.getD undef = _ := hU 9 (by omega)
                    have B5 : BoxA wb (w.heap.size + 3) (.int .i64 5) (.bool false) (.int .i64 0) (.string ⟨#[]⟩) (.slice none 0 0) (.slice al K.length cl') := ⟨(World.cell?_of_block n2).trans xo0, (World.cell?_of_block n2).trans xo1, (World.cell?_of_block n2).trans xo2, (World.cell?_of_block n2).trans xo3, (World.cell?_of_block n2).trans xo4, k5⟩
                    go_simp
                    refine hK _ ⟨a7, e7, ds, hO.keep (fun b _ hne => setRow_heap (w.heap.size + 3) [.slice a7 (K.length + 1) e7] wb 5 b hne) (Nat.le_of_eq (setRow_size (w.heap.size + 3) [.slice a7 (K.length + 1) e7] wb 5).symm), setRow_boxA (.slice a7 (K.length + 1) e7) B5, fun j => (setRow_frozen (w.heap.size + 3) [.slice a7 (K.length + 1) e7] wb 5 _).trans (kf j), fun b hb hne => (setRow_heap (w.heap.size + 3) [.slice a7 (K.length + 1) e7] wb 5 b hne).trans ?_, ?_, setRow_below (w.heap.size + 3) (by omega) [.slice a7 (K.length + 1) e7] wb 5 hB2⟩
                    · exact (hB3 b (by omega) (fun e => by have := (hobK _ e).1; omega)).trans (KPp.out b hb hne)
                    · have := setRow_size (w.heap.size + 3) [.slice a7 (K.length + 1) e7] wb 5
                      exact Nat.le_trans (by omega : v.heap.size ≤ wb.heap.size) (Nat.le_of_eq this.symm)
                  case g10 =>
                    intro ac wn hA ⟨a7, e7, ds, HKn, BOn, FZn, KPn, SZn, HBn⟩
                    have hlen : (K ++ [(m[j].1, T.over X m[j].2, ds)]).length = K.length + 1 := by rw [List.length_append]; rfl
                    have HE3 := Lib.hid (HE2.out ds)
                    obtain ⟨K6, eK6⟩ : ∃ K6, K6 = K ++ [(m[j].1, T.over X m[j].2, ds)] := ⟨_, rfl⟩
                    rw [← eK6] at HKn HE3 hlen
                    rw [← hlen] at HKn BOn
                    have hs : slots 10 (fun i => 114 + i) = [114, 115, 116, 117, 118, 119, 120, 121, 122, 123] := by rfl
                    rw [hs] at hA
                    have hac := hA.act (fun t ht => by
                      have h8 : t = 114 ∨ t = 115 ∨ t = 116 ∨ t = 117 ∨ t = 118 ∨ t = 119 ∨ t = 120 ∨ t = 121 ∨ t = 122 ∨ t = 123 := by simpa using ht
                      rcases h8 with rfl | rfl | rfl | rfl | rfl | rfl | rfl | rfl | rfl | rfl <;> exact Nat.lt_of_lt_of_le (by decide : _ < 125) (Nat.le_refl 125))
                    rw [List.foldl_cons, List.foldl_cons, List.foldl_cons, List.foldl_cons, List.foldl_cons, List.foldl_cons, List.foldl_cons, List.foldl_cons, List.foldl_cons, List.foldl_cons, List.foldl_nil] at hac
                    generalize sl ac 114 = x114 at hac
                    generalize sl ac 115 = x115 at hac
                    generalize sl ac 116 = x116 at hac
                    generalize sl ac 117 = x117 at hac
                    generalize sl ac 118 = x118 at hac
                    generalize sl ac 119 = x119 at hac
                    generalize sl ac 120 = x120 at hac
                    generalize sl ac 121 = x121 at hac
                    generalize sl ac 122 = x122 at hac
                    generalize sl ac 123 = x123 at hac
                    clear hA hs eK6 HE2 HKp BOp FZp KPp HBp hobK hex xo0 xo1 xo2 xo3 xo4 xo5 XD XQ HX
                    subst hac
                    simp only [Act.put, List.setIfInBounds_toArray, List.set_cons_succ, List.set_cons_zero]
                    go_wp2_with fail
                    go_roundw
                    case rel => exact ⟨m1.length, j + 1, a7, e7, K6, by omega, by omega, by go_num, by go_num, HKn, HE3, by omega, BOn, FZn, KPn, SZn, HBn⟩
                    case measure => simp [intOf]; omega
          · obtain rfl : i = m1.length := by omega
            obtain rfl : j = m.length := by omega
            have HF : Hid (K.map strip = overR m1 m) := by
              show _ = _
              rw [← HE.out, List.drop_length, List.drop_length, overR_nil, List.append_nil]
            have z2 : ∀ j, wr.cell? ⟨w.heap.size + 1 + 1, j, none⟩ = (#[.int .i64 0, .bool false, .int .i64 0, .string ⟨#[]⟩, .slice none 0 0, .slice none 0 0] : Array Value)[j]? := fun j => (World.cell?_of_block (hkp (w.heap.size + 2) (by omega) (by omega))).trans (Q2.out j)
            have z3 : ∀ j, wr.frozen? ⟨w.heap.size + 1 + 1, j, none⟩ = false := fun j => (World.frozen?_of_block (hkp (w.heap.size + 2) (by omega) (by omega))).trans (Q3.out j)
            have Z2 := Lib.hid z2
            obtain ⟨xo0, xo1, xo2, xo3, xo4, xo5⟩ := BO.out
            obtain ⟨a9, e9, cm9, ev, hS9⟩ := HK.out.done (by omega)
            obtain ⟨rfl, rfl⟩ : al = a9 ∧ cl' = e9 := by simpa using ev
            rw [HF.out] at hS9
            have HS9 := Lib.hid hS9
            have HLE : Hid ((K).length = (overR m1 m).length) := by
              show _ = _
              rw [← HF.out, List.length_map]
            clear ev hS9 hkp hend
            go_wp2_with fail
            refine ret_cells wr (w.heap.size + 2) [.int .i64 5, .bool false, .int .i64 0, .string ⟨#[]⟩, .slice none 0 0, .slice al (K).length cl'] rfl Tryz.results14 rfl rfl DD.out HU.out Tryz.sizeV (fun i hi => ⟨_, (Z2.out i).trans (Array.getElem?_eq_getElem (show i < 6 from hi))⟩) ?_
            rw [HLE.out]
            have hw0 := hw.size
            exact ⟨_, rfl, Lies.of_slices (m := overR m1 m) wf5 wf0 empty_size (empty_sliceV _ _) ((HS9.out.keepB (fun b hb _ => setRow_heap _ [.int .i64 5, .bool false, .int .i64 0, .string ⟨#[]⟩, .slice none 0 0, .slice al (overR m1 m).length cl'] _ _ _ (by
              obtain ⟨hb, _⟩ := hb
              rcases hb with (h | h) | h
              · have := h.2; omega
              · omega
              · omega))).weaken (fun b hb => by
              rcases hb.1 with (h | h) | h
              · exact .inl h
              · exact .inr (by omega)
              · exact .inr (by omega))), setRow_below _ (by omega) [.int .i64 5, .bool false, .int .i64 0, .string ⟨#[]⟩, .slice none 0 0, .slice al (overR m1 m).length cl'] _ _ HB.out⟩

end Go.Proofs.YtlniokpekcoodaaGreatDoor
