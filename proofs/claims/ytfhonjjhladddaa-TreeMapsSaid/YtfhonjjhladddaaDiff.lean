/-
  Package layer's Diff.
-/
import Derived.Test.YtfhonjjhladddaaChange
set_option linter.unusedVariables false
set_option linter.unusedSimpArgs false
namespace Go.Proofs.Ytfhonjjhladddaa
open Go.RowKit Go.Sort

theorem gone_elem {Kg : List Q} {ps : Prs} (hs : Kg.map strip = goneR ps) : ∀ q ∈ Kg, q.2.1 = T.nil := fun q hq => by
  have h : strip q ∈ goneR ps := by rw [← hs]; exact List.mem_map.2 ⟨q, hq, rfl⟩
  exact (gone_mem h).2
theorem gone_len {Kg : List Q} {ps : Prs} (hs : Kg.map strip = goneR ps) : Kg.length = ps.length := by
  have := congrArg List.length hs
  simpa [goneR] using this
theorem gone_news {b : Nat} {w : World} {v : Value} {Kg : List Q} (h : OwnV b w v Kg) (hc : ∀ q ∈ Kg, q.2.2 = nilC) : ∃ ag cg, v = .slice ag Kg.length cg ∧ (flatQ Kg).length = Kg.length * 7 ∧ (ag = none → Kg.length = 0 ∧ cg = 0) ∧
    (∀ ad, ag = some ad → ∀ j u, (flatQ Kg)[j]? = some u → w.cell? (ad.add j) = some u) ∧ (∀ u ∈ flatQ Kg, u.oneCell' = true) := by
  have hone : ∀ u ∈ flatQ Kg, u.oneCell' = true := fun u hu => by
    unfold flatQ at hu
    obtain ⟨r, hr, hu⟩ := List.mem_flatMap.1 hu
    obtain ⟨q, hq, rfl⟩ := List.mem_map.1 hr
    rw [qrow, hc q hq] at hu
    simp [nilC] at hu
    rcases hu with rfl | rfl | rfl | rfl | rfl | rfl <;> rfl
  rcases h.own.2 with ⟨e, hn⟩ | ⟨g, cap, cur, e, hr⟩
  · exact ⟨none, 0, by rw [e, hn], h.own.1, (fun _ => ⟨hn, rfl⟩), (fun ad hx => by cases hx), hone⟩
  · refine ⟨some ⟨g, 0, none⟩, cap, e, h.own.1, (fun hx => by cases hx), (fun ad hx j u hu => ?_), hone⟩
    obtain rfl : (⟨g, 0, none⟩ : Addr) = ad := by injection hx
    have hj : j < Kg.length * 7 := by
      have := (List.getElem?_eq_some_iff.1 hu).1
      rw [h.own.1] at this
      exact this
    have ho := h.own
    rw [e] at ho
    rw [Addr.add_lit, Nat.zero_add, ho.cellAt j hj]
    exact hu
theorem OwnV.gone {base : Nat} {w w' : World} {v v' : Value} {K Kg : List Q} {ps : Prs} (h : OwnV base w v K) (hs : Kg.map strip = goneR ps) (hc : ∀ q ∈ Kg, q.2.2 = nilC) (hk : ∀ i (h : i < Kg.length), Kg[i].1.size ≤ 140737488355328)
    (own : w'.ownsRow base 36 7 v' (K.length + Kg.length) (flatQ K ++ flatQ Kg)) (hg : w.grownBy w' v.ownBlock) (hob : v'.ownBlock = v.ownBlock ∨ v'.ownBlock = some w.heap.size) : OwnV base w' v' (K ++ Kg) :=
  h.step (fun i hi => by
    rw [gone_elem hs Kg[i] (List.getElem_mem hi), hc Kg[i] (List.getElem_mem hi)]
    exact nil_lies _ _) hk own hg hob

theorem lies_pairs {w : World} {R : Nat → Prop} {t : T} {b : Bool} {n : Int} {s : ByteArray} {la : Option Addr} {ll lc : Nat} {ma : Option Addr} {ml mc : Nat} (h : Lies w R t #[.int .i64 5, .bool b, .int .i64 n, .string s, .slice la ll lc, .slice ma ml mc]) :
    ml = t.pairs.length ∧ ∃ cm, SliceP w R t.pairs ma mc cm := by
  cases h with
  | mk k b n s l m la lc ma mc cl cm hk hn hs hl hm rl rm ks il im =>
    rw [pairs5]
    exact ⟨rfl, cm, hm, rm, ks, im⟩

theorem diff_next (rest : Prs) (m : Prs) (j : Nat) (hj : j < m.length) : diffR rest (m.drop j) = goneR (cutB m[j].1 rest) ++ (oneR m[j].1 (chg (cutH m[j].1 rest) m[j].2 (T.diff (cutH m[j].1 rest) m[j].2)) ++ diffR (cutA m[j].1 rest) (m.drop (j + 1))) := by
  rw [drop_cons m j hj, diffR_cons]

set_option maxRecDepth 100000 in
set_option maxHeartbeats 4000000 in
theorem diff_any {w0 : World} {R2 : Nat → Prop} {u : T} {ds : Array Value} (h2 : Lies w0 R2 u ds) : ∀ {R1 : Nat → Prop} {t : T} {cs : Array Value} (_ : Lies w0 R1 t cs) (w : World) (_ : Below w0.heap.size w0 w) (_ : t.size ≤ 1000000) (_ : u.size ≤ 1000000),
    Calls Try.prog 24 #[.agg cs, .agg ds] w (OverIn w (T.diff t u)) := by
  induction h2 with
  | mk k b n s l m la lc ma mc cl cm hk hn hs hl hm rl rm ks il im ihl ihm =>
    intro R1 t cs h1 w hw hts hus
    have CU := Lib.hid (tClone_any (Lies.mk (w := w0) k b n s l m la lc ma mc cl cm hk hn hs hl hm rl rm ks il im))
    have HM : Hid (SliceP w0 _ m ma mc cm) := ⟨hm, rm, ks, im⟩
    have IH := Lib.hid ihm
    have hml : m.length ≤ 1000000 := by
      have h1 := len_le_sumL (fun p : ByteArray × T => p.2.size) m (fun q _ => size_posL q.2)
      rw [T.size_mk] at hus
      omega
    have hmz : Hid (∀ i (hi : i < m.length), m[i].2.size ≤ 1000000) := fun i hi => by
      have h1 := le_sum (List.mem_map.2 ⟨m[i], List.getElem_mem hi, rfl⟩ : m[i].2.size ∈ m.map fun p => p.2.size)
      rw [T.size_mk] at hus
      omega
    have htl : t.pairs.length ≤ 1000000 := Nat.le_trans (pairs_le_sizeL t) hts
    have htz : Hid (∀ p ∈ t.pairs, p.2.size ≤ 1000000) := fun p hp => Nat.le_trans (pair_le_sizeL hp) hts
    have H1 := Lib.hid h1
    obtain ⟨t0, t1, t2, t3, t4, t4l, t4c, t5, t5l, t5c, rfl⟩ := h1.six
    have kt : t.kind = t0 := lies_kind h1
    clear hk hn hs hl hm rl rm ks il im ihl ihm h1 hus
    have h3 := Lib.hid ((((Below.refl w.heap.size w).alloc (Nat.le_refl _) (.cells #[.int .i64 t0, .bool t1, .int .i64 t2, .string t3, .slice t4 t4l t4c, .slice t5 t5l t5c] 25)).alloc (by simp) (.cells #[.int .i64 k, .bool b, .int .i64 n, .string s, .slice la l.length lc, .slice ma m.length mc] 25)).alloc (by simp; omega) (.cells #[.int .i64 0, .bool false, .int .i64 0, .string ⟨#[]⟩, .slice none 0 0, .slice none 0 0] 25))
    obtain ⟨dd, hu, hdd⟩ := Try.structV
    have DD := Lib.hid hdd
    have HU := Lib.hid hu
    clear hu hdd
    by_cases hb5 : t0 = 5 ∧ k = 5
    case neg =>
      have HT : Hid (T.diff t (.mk k b n s l m) = .mk k b n s l m) := diff_other t _ (by
        rw [kt]
        exact hb5)
      rw [HT.out]
      clear kt
      by_cases h5 : t0 = 5
      · have f0 : (t0 != 5) = false := by simp [h5]
        have f1 : (k != 5) = true := by
          have : k ≠ 5 := fun e => hb5 ⟨h5, e⟩
          simp [this]
        clear hb5 h5
        go_enter Try.func24, Try.ntmps24
        go_wp2_with fail
        refine (CU.out _ (bstep hw h3.out hw.size)).mono ?_
        rintro e w1 ⟨ds, rfl, hL, hb1⟩
        obtain ⟨d0, d1, d2, d3, d4, d4l, d4c, d5, d5l, d5c, rfl⟩ := hL.six
        obtain ⟨q0, q1, q2, q3⟩ := three_boxes hb1 (by simp)
        have Q2 := Lib.hid q2
        have HL := Lib.hid hL
        have HB := Lib.hid hb1
        have hs1 := hb1.size
        simp only [World.size_alloc] at hs1
        have z2 : ∀ j, w1.cell? ⟨w.heap.size + 1 + 1, j, none⟩ = _ := q2
        have z3 : ∀ j, w1.frozen? ⟨w.heap.size + 1 + 1, j, none⟩ = _ := q3
        clear q0 q1 q2 q3 hL hb1
        go_wp2_with fail
        refine ret_cells w1 (w.heap.size + 2) [.int .i64 d0, .bool d1, .int .i64 d2, .string d3, .slice d4 d4l d4c, .slice d5 d5l d5c] rfl Try.results24 rfl rfl DD.out HU.out Try.sizeV (fun i hi => ⟨_, (Q2.out i).trans (Array.getElem?_eq_getElem (show i < 6 from hi))⟩) ?_
        refine ⟨_, rfl, (HL.out.keep (fun x hx => setRow_heap _ [.int .i64 d0, .bool d1, .int .i64 d2, .string d3, .slice d4 d4l d4c, .slice d5 d5l d5c] _ _ _ (by simp only [World.size_alloc] at hx; omega))).weaken (fun x hx => by simp only [World.size_alloc] at hx; omega), setRow_below _ (by omega) _ _ _ (bstep h3.out HB.out (by simp; omega))⟩
      · have f0 : (t0 != 5) = true := by simp [h5]
        clear hb5 h5
        go_enter Try.func24, Try.ntmps24
        go_wp2_with fail
        refine (CU.out _ (bstep hw h3.out hw.size)).mono ?_
        rintro e w1 ⟨ds, rfl, hL, hb1⟩
        obtain ⟨d0, d1, d2, d3, d4, d4l, d4c, d5, d5l, d5c, rfl⟩ := hL.six
        obtain ⟨q0, q1, q2, q3⟩ := three_boxes hb1 (by simp)
        have Q2 := Lib.hid q2
        have HL := Lib.hid hL
        have HB := Lib.hid hb1
        have hs1 := hb1.size
        simp only [World.size_alloc] at hs1
        have z2 : ∀ j, w1.cell? ⟨w.heap.size + 1 + 1, j, none⟩ = _ := q2
        have z3 : ∀ j, w1.frozen? ⟨w.heap.size + 1 + 1, j, none⟩ = _ := q3
        clear q0 q1 q2 q3 hL hb1
        go_wp2_with fail
        refine ret_cells w1 (w.heap.size + 2) [.int .i64 d0, .bool d1, .int .i64 d2, .string d3, .slice d4 d4l d4c, .slice d5 d5l d5c] rfl Try.results24 rfl rfl DD.out HU.out Try.sizeV (fun i hi => ⟨_, (Q2.out i).trans (Array.getElem?_eq_getElem (show i < 6 from hi))⟩) ?_
        refine ⟨_, rfl, (HL.out.keep (fun x hx => setRow_heap _ [.int .i64 d0, .bool d1, .int .i64 d2, .string d3, .slice d4 d4l d4c, .slice d5 d5l d5c] _ _ _ (by simp only [World.size_alloc] at hx; omega))).weaken (fun x hx => by simp only [World.size_alloc] at hx; omega), setRow_below _ (by omega) _ _ _ (bstep h3.out HB.out (by simp; omega))⟩
    case pos =>
      obtain ⟨rfl, rfl⟩ := hb5
      have HT := Lib.hid (diff_map t b n s l m kt)
      rw [HT.out]
      obtain ⟨rfl, cm0, hP⟩ := lies_pairs H1.out
      have HP := Lib.hid hP
      obtain ⟨i0, hi, hz0, hz1, hz2⟩ := info_parts Try.infoP
      have HI0 := Lib.hid hi
      have HZ0 := Lib.hid hz0
      have HZ1 := Lib.hid hz1
      have HZ2 := Lib.hid hz2
      obtain ⟨q0, q1, q2, q3⟩ := three_boxes (Below.refl (w.heap.size + 3) (((w.alloc (.cells #[.int .i64 5, .bool t1, .int .i64 t2, .string t3, .slice t4 t4l t4c, .slice t5 t.pairs.length t5c] 25)).alloc (.cells #[.int .i64 5, .bool b, .int .i64 n, .string s, .slice la l.length lc, .slice ma m.length mc] 25)).alloc (.cells #[.int .i64 0, .bool false, .int .i64 0, .string ⟨#[]⟩, .slice none 0 0, .slice none 0 0] 25))) (by omega)
      have Q2 := Lib.hid q2
      have Q3 := Lib.hid q3
      have HSZ : Hid ((((w.alloc (.cells #[.int .i64 5, .bool t1, .int .i64 t2, .string t3, .slice t4 t4l t4c, .slice t5 t.pairs.length t5c] 25)).alloc (.cells #[.int .i64 5, .bool b, .int .i64 n, .string s, .slice la l.length lc, .slice ma m.length mc] 25)).alloc (.cells #[.int .i64 0, .bool false, .int .i64 0, .string ⟨#[]⟩, .slice none 0 0, .slice none 0 0] 25)).heap.size = w.heap.size + 3) := by show _ = _; simp
      clear hP hi hz0 hz1 hz2 q0 q1 q2 q3 kt H1
      go_enter Try.func24, Try.ntmps24
      go_wp2_with fail
      generalize hv : ((w.alloc (.cells #[.int .i64 5, .bool t1, .int .i64 t2, .string t3, .slice t4 t4l t4c, .slice t5 t.pairs.length t5c] 25)).alloc (.cells #[.int .i64 5, .bool b, .int .i64 n, .string s, .slice la l.length lc, .slice ma m.length mc] 25)).alloc (.cells #[.int .i64 0, .bool false, .int .i64 0, .string ⟨#[]⟩, .slice none 0 0, .slice none 0 0] 25) = v at *
      clear hv
      go_loopw [5, 6, 8, 9, 10, 11, 12, 13, 29] (fun v5 v6 _ _ _ _ _ _ vi wr => ∃ (j : Nat) (rest : Prs) (ar : Option Addr) (cr : Nat) (cmr : Nat → Array Value) (al : Option Addr) (cl : Nat) (K : List Q), j ≤ m.length ∧ vi = .int .i64 j ∧ v6 = .slice ar rest.length cr ∧ v5 = .slice al K.length cl ∧ Hid (SliceP w0 R1 rest ar cr cmr) ∧ Hid (OwnV v.heap.size wr (.slice al K.length cl) K) ∧ Hid (K.map strip ++ diffR rest (m.drop j) = diffR t.pairs m) ∧ K.length + rest.length + (m.length - j) ≤ t.pairs.length + m.length ∧ Hid (∀ p ∈ rest, p.2.size ≤ 1000000) ∧ Below v.heap.size v wr) (fun _ _ _ _ _ _ _ _ vi _ => m.length - (intOf vi).toNat)
      case atStart => exact ⟨0, t.pairs, t5, t5c, cm0, none, 0, [], by omega, rfl, rfl, rfl, HP.out, OwnV.nil _ _, by show _ = _; simp, by simp, htz.out, Below.refl _ _⟩
      case round =>
        obtain ⟨j, rest, ar, cr, cmr, al, cl', K, hj, rfl, rfl, rfl, HR, HK, HE, hcap, hrz, hbw⟩ := hrel
        have hbr := bstep h3.out hbw h3.out.size
        have hwr := bstep hw hbr hw.size
        have hltr : v.heap.size ≤ wr.heap.size := hbw.size
        by_cases hjl : j < m.length
        · obtain ⟨bl, ol, c0, c1, c2, c3, c4, c4l, c4c, c5, c5l, c5c, rfl, hc, r0, r1, r2, r3, r4, r5, r6⟩ := openM hwr HM.out.hdr HM.out.rows hjl (HM.out.each j hjl)
          have CC := Lib.hid (cut_any HR.out m[j].1)
          have hLx := HM.out.each j hjl
          have IHj := fun (R1 : Nat → Prop) (t : T) (cs : Array Value) (h : Lies w0 R1 t cs) w hw a b => IH.out j hjl h w hw a b
          rw [hc] at IHj hLx
          have IHJ := Lib.hid IHj
          have HLX := Lib.hid hLx
          have hkeyj := HM.out.keys j hjl
          have hv := Lib.hid ((Below.refl wr.heap.size wr).alloc (Nat.le_refl _) (.cells #[.string m[j].1, .int .i64 c0, .bool c1, .int .i64 c2, .string c3, .slice c4 c4l c4c, .slice c5 c5l c5c] 36))
          have HN := Lib.hid (diff_next rest m j hjl)
          clear hc IHj hLx
          go_wp2_with fail
          refine (CC.out _ (bstep hwr hv.out hwr.size)).mono ?_
          rintro e w3 ⟨ab, cb, cmb, hs0, a3, c3', cm3, rfl, hSB, hLH, hSA, hb3⟩
          obtain ⟨g0, g1, g2, g3, g4, g4l, g4c, g5, g5l, g5c, rfl⟩ := hLH.six
          have hA3 := Lib.hid ((Below.refl w3.heap.size w3).alloc (Nat.le_refl _) (.cells #[.int .i64 g0, .bool g1, .int .i64 g2, .string g3, .slice g4 g4l g4c, .slice g5 g5l g5c] 25))
          have hr4 := Lib.hid (bstep hv.out (bstep hb3 hA3.out hb3.size) (by simp))
          have hs4 := hb3.size
          simp only [World.size_alloc] at hs4
          have hw4 := Lib.hid (bstep hwr hr4.out hwr.size)
          have B8 : Hid (∀ j', w3.cell? ⟨wr.heap.size, j', none⟩ = (#[.string m[j].1, .int .i64 c0, .bool c1, .int .i64 c2, .string c3, .slice c4 c4l c4c, .slice c5 c5l c5c] : Array Value)[j']?) := (one_boxL hb3).1
          have B10 : Hid (BoxA (w3.alloc (.cells #[.int .i64 g0, .bool g1, .int .i64 g2, .string g3, .slice g4 g4l g4c, .slice g5 g5l g5c] 25)) w3.heap.size (.int .i64 g0) (.bool g1) (.int .i64 g2) (.string g3) (.slice g4 g4l g4c) (.slice g5 g5l g5c)) := BoxA.new _ _ _ _ _ _ _ _
          have HS4 : Hid ((w3.alloc (.cells #[.int .i64 g0, .bool g1, .int .i64 g2, .string g3, .slice g4 g4l g4c, .slice g5 g5l g5c] 25)).heap.size = w3.heap.size + 1) := by show _ = _; simp
          have hcl := cut_len m[j].1 rest
          have HSB := Lib.hid hSB
          have HLH := Lib.hid hLH
          have HSA := Lib.hid hSA
          have GB := Lib.hid (gone_any hSB (by omega))
          clear hSB hLH hSA hb3 r0 r1 r2 r3 r4 r5 r6
          go_wp2_with fail
          generalize hv4 : w3.alloc (.cells #[.int .i64 g0, .bool g1, .int .i64 g2, .string g3, .slice g4 g4l g4c, .slice g5 g5l g5c] 25) = w4 at *
          have hs40 := HS4.out
          have y8 : Hid (∀ j', w4.cell? ⟨wr.heap.size, j', none⟩ = (#[.string m[j].1, .int .i64 c0, .bool c1, .int .i64 c2, .string c3, .slice c4 c4l c4c, .slice c5 c5l c5c] : Array Value)[j']?) := fun j' => (hA3.out.cell (p := ⟨wr.heap.size, j', none⟩) (by simp only; omega)).trans (B8.out j')
          refine (GB.out _ hw4.out).mono ?_
          rintro e w5 ⟨vg, Kg, rfl, hOG, hSG, hCG, hb5⟩
          obtain ⟨ag, cg, rfl, n1, n2, n3, n4⟩ := gone_news hOG hCG
          have N1 := Lib.hid n1
          have N2 := Lib.hid n2
          have N3 := Lib.hid n3
          have N4 := Lib.hid n4
          have HGL := Lib.hid (gone_len hSG)
          have HK5 := Lib.hid (HK.out.later (bstep hr4.out hb5 hr4.out.size))
          have HOG := Lib.hid hOG
          have HSG := Lib.hid hSG
          have HCG := Lib.hid hCG
          have HB5 := Lib.hid hb5
          have hs5 := hb5.size
          clear n1 n2 n3 n4 hOG hSG hCG hb5 hv4
          go_wp2_with (at_builtin; (refine wpList_append_own_any _ rfl (.tmp 41) (.tmp 43) 23 rfl v.heap.size 36 i0 _ 7 104 Try.underlying23 HI0.out HZ0.out HZ1.out HZ2.out (by rfl) (by decide) (.slice al K.length cl') K.length _ rfl HK5.out.own ag Kg.length cg (flatQ Kg) rfl N1.out N2.out N3.out N4.out (by have := HGL.out; unfold maxLen; omega) (by have := HGL.out; omega) (by omega) ?_))
          intro v' w6 own6 hg6 hob6
          obtain ⟨al6, cl6, rfl⟩ := row_form own6
          have hln : (K ++ Kg).length = K.length + Kg.length := List.length_append
          have HK6 : Hid (OwnV v.heap.size w6 (.slice al6 (K ++ Kg).length cl6) (K ++ Kg)) := by
            show OwnV _ _ _ _
            rw [hln]
            exact HK5.out.gone HSG.out HCG.out HOG.out.keys own6 hg6 hob6
          have HLN := Lib.hid hln
          have hs6 := hg6.size
          have hne : ∀ x, wr.heap.size ≤ x → some x ≠ (Value.slice al K.length cl').ownBlock := fun x hx e => by have := (HK.out.block e.symm).2; omega
          have Y8 : Hid (∀ j', w6.cell? ⟨wr.heap.size, j', none⟩ = (#[.string m[j].1, .int .i64 c0, .bool c1, .int .i64 c2, .string c3, .slice c4 c4l c4c, .slice c5 c5l c5c] : Array Value)[j']?) := fun j' =>
            ((World.cell?_of_block (hg6.block wr.heap.size (by omega) (hne _ (Nat.le_refl _)))).trans (HB5.out.cell (p := ⟨wr.heap.size, j', none⟩) (by simp only; omega))).trans (y8.out j')
          have Y10 : Hid (∀ j', w6.cell? ⟨w3.heap.size, j', none⟩ = w4.cell? ⟨w3.heap.size, j', none⟩) := fun j' =>
            (World.cell?_of_block (hg6.block w3.heap.size (by omega) (hne _ (by omega)))).trans (HB5.out.cell (p := ⟨w3.heap.size, j', none⟩) (by simp only; omega))
          have hr6 := Lib.hid (((hbw.trans (hr4.out.mono (show v.heap.size ≤ wr.heap.size by omega))).trans (HB5.out.mono (show v.heap.size ≤ w4.heap.size by omega))).grown hg6 (by omega) (fun g hg => (HK.out.block hg).1))
          have hw6 := Lib.hid (bstep (bstep hw h3.out hw.size) hr6.out (bstep hw h3.out hw.size).size)
          have hmap6 : Hid ((K ++ Kg).map strip = K.map strip ++ goneR (cutB m[j].1 rest)) := by show _ = _; rw [List.map_append, HSG.out]
          have hHz : (cutH m[j].1 rest).size ≤ 1000000 := by
            rcases cutH_mem m[j].1 rest with e | ⟨q, hq, _, e⟩
            · rw [e]; show T.size (.mk 0 false 0 ⟨#[]⟩ [] []) ≤ _; rw [T.size_mk]; simp
            · rw [← e]; exact hrz.out q hq
          have HRA : Hid (∀ p ∈ cutA m[j].1 rest, p.2.size ≤ 1000000) := fun p hp => hrz.out p (cutA_mem hp)
          have hmzj := hmz.out j hjl
          have CH := change_any HLH.out HLX.out (fun w hw => IHJ.out _ _ _ HLH.out w hw hHz hmzj) w6 hw6.out
          obtain ⟨xg0, xg1, xg2, xg3, xg4, xg5⟩ := B10.out
          have xg0 := (Y10.out 0).trans xg0
          have xg1 := (Y10.out 1).trans xg1
          have xg2 := (Y10.out 2).trans xg2
          have xg3 := (Y10.out 3).trans xg3
          have xg4 := (Y10.out 4).trans xg4
          have xg5 := (Y10.out 5).trans xg5
          have y1 : w6.cell? ⟨wr.heap.size, 1, none⟩ = some (.int .i64 c0) := Y8.out 1
          have y2 : w6.cell? ⟨wr.heap.size, 2, none⟩ = some (.bool c1) := Y8.out 2
          have y3 : w6.cell? ⟨wr.heap.size, 3, none⟩ = some (.int .i64 c2) := Y8.out 3
          have y4 : w6.cell? ⟨wr.heap.size, 4, none⟩ = some (.string c3) := Y8.out 4
          have y5 : w6.cell? ⟨wr.heap.size, 5, none⟩ = some (.slice c4 c4l c4c) := Y8.out 5
          have y6 : w6.cell? ⟨wr.heap.size, 6, none⟩ = some (.slice c5 c5l c5c) := Y8.out 6
          clear own6 hg6 hob6 hne hln
          cases ho : chg (cutH m[j].1 rest) m[j].2 (T.diff (cutH m[j].1 rest) m[j].2) with
          | none =>
            rw [ho] at CH
            have HE6 : Hid ((K ++ Kg).map strip ++ diffR (cutA m[j].1 rest) (m.drop (j + 1)) = diffR t.pairs m) := by
              show _ = _
              rw [hmap6.out, ← HE.out, HN.out, ho, oneR, List.nil_append, List.append_assoc]
            clear ho
            go_wp2_with fail
            refine CH.mono ?_
            rintro e w7 ⟨x7, d7, rfl, hL7, hO7, hb7⟩
            obtain ⟨e0, e1, e2, e3, e4, e4l, e4c, e5, e5l, e5c, rfl⟩ := hL7.six
            have hb8 := Lib.hid ((hr6.out.trans (hb7.mono (show v.heap.size ≤ w6.heap.size by omega))).alloc (show v.heap.size ≤ w7.heap.size by have := hb7.size; omega) (.cells #[.int .i64 e0, .bool e1, .int .i64 e2, .string e3, .slice e4 e4l e4c, .slice e5 e5l e5c] 25))
            have HK8 := Lib.hid (HK6.out.later (bbox hb7 (.cells #[.int .i64 e0, .bool e1, .int .i64 e2, .string e3, .slice e4 e4l e4c, .slice e5 e5l e5c] 25) hb7.size))
            clear hL7 hO7 hb7 xg0 xg1 xg2 xg3 xg4 xg5 y1 y2 y3 y4 y5 y6 CH
            go_wp2_with fail
            go_roundw
            case rel => exact ⟨j + 1, cutA m[j].1 rest, a3, c3', cm3, al6, cl6, _, by omega, by go_num, rfl, by rw [HLN.out], HSA.out, HK8.out, HE6.out, by rw [HLN.out, HGL.out]; omega, HRA.out, hb8.out⟩
            case measure => simp [intOf]; omega
          | some d =>
            rw [ho] at CH
            have HE6 : Hid ((K ++ Kg).map strip ++ ((m[j].1, d) :: diffR (cutA m[j].1 rest) (m.drop (j + 1))) = diffR t.pairs m) := by
              show _ = _
              rw [hmap6.out, ← HE.out, HN.out, ho, oneR, List.append_assoc]
              rfl
            clear ho
            go_wp2_with fail
            refine CH.mono ?_
            rintro e w7 ⟨x7, d7, rfl, hL7, hO7, hb7⟩
            obtain rfl := hO7 d rfl
            obtain ⟨e0, e1, e2, e3, e4, e4l, e4c, e5, e5l, e5c, rfl⟩ := hL7.six
            have hA8 := Lib.hid ((Below.refl w7.heap.size w7).alloc (Nat.le_refl _) (.cells #[.int .i64 e0, .bool e1, .int .i64 e2, .string e3, .slice e4 e4l e4c, .slice e5 e5l e5c] 25))
            have hb8 := Lib.hid (bstep hb7 hA8.out hb7.size)
            have HK8 := Lib.hid (HK6.out.later hb8.out)
            have HL8 := Lib.hid (hL7.later hA8.out)
            have BE : Hid (BoxA (w7.alloc (.cells #[.int .i64 e0, .bool e1, .int .i64 e2, .string e3, .slice e4 e4l e4c, .slice e5 e5l e5c] 25)) w7.heap.size (.int .i64 e0) (.bool e1) (.int .i64 e2) (.string e3) (.slice e4 e4l e4c) (.slice e5 e5l e5c)) := BoxA.new _ _ _ _ _ _ _ _
            have k8 : (w7.alloc (.cells #[.int .i64 e0, .bool e1, .int .i64 e2, .string e3, .slice e4 e4l e4c, .slice e5 e5l e5c] 25)).cell? ⟨wr.heap.size, 0, none⟩ = some (.string m[j].1) := (hb8.out.cell (p := ⟨wr.heap.size, 0, none⟩) (by simp only; omega)).trans (Y8.out 0)
            have hs7 := hb7.size
            have HS8 : Hid ((w7.alloc (.cells #[.int .i64 e0, .bool e1, .int .i64 e2, .string e3, .slice e4 e4l e4c, .slice e5 e5l e5c] 25)).heap.size = w7.heap.size + 1) := by show _ = _; simp
            obtain ⟨xe0, xe1, xe2, xe3, xe4, xe5⟩ := BE.out
            clear hL7 hO7 hb7 xg0 xg1 xg2 xg3 xg4 xg5 y1 y2 y3 y4 y5 y6 CH
            have HKR := Lib.hid (HK8.out.later ((Below.refl _ _).alloc (Nat.le_refl _) (.cells #[.string m[j].1, .int .i64 e0, .bool e1, .int .i64 e2, .string e3, .slice e4 e4l e4c, .slice e5 e5l e5c] 36)))
            have HLR := Lib.hid ((HL8.out.later ((Below.refl _ _).alloc (Nat.le_refl _) (.cells #[.string m[j].1, .int .i64 e0, .bool e1, .int .i64 e2, .string e3, .slice e4 e4l e4c, .slice e5 e5l e5c] 36))).bound)
            go_wp2_with (at_builtin; (refine wpList_append_own_at _ rfl (.tmp 53) (.tmp 58) 23 rfl v.heap.size 36 i0 _ 7 104 Try.underlying23 HI0.out HZ0.out HZ1.out HZ2.out (by rfl) (by decide) (.slice al6 (K.length + Kg.length) cl6) (K.length + Kg.length) _ rfl (by have := HKR.out.own; rw [HLN.out] at this; exact this) ⟨(w7.alloc (.cells #[.int .i64 e0, .bool e1, .int .i64 e2, .string e3, .slice e4 e4l e4c, .slice e5 e5l e5c] 25)).heap.size, 0, none⟩ 1 1 [.string m[j].1, .int .i64 e0, .bool e1, .int .i64 e2, .string e3, .slice e4 e4l e4c, .slice e5 e5l e5c] (by simp [Act.eval]) rfl (fun i u hu => lit_cells _ #[.string m[j].1, .int .i64 e0, .bool e1, .int .i64 e2, .string e3, .slice e4 e4l e4c, .slice e5 e5l e5c] 36 i u hu) (fun u hu => by
              simp at hu
              rcases hu with rfl | rfl | rfl | rfl | rfl | rfl | rfl <;> rfl) (by have := HGL.out; unfold maxLen; omega) (by have := HGL.out; omega) (by have := HS8.out; simp; omega) ?_))
            intro v9 w9 own9 hg9 _ hob9
            obtain ⟨al9, cl9, rfl⟩ := row_form own9
            have hln9 : (K ++ Kg ++ [(m[j].1, x7, (#[.int .i64 e0, .bool e1, .int .i64 e2, .string e3, .slice e4 e4l e4c, .slice e5 e5l e5c] : Array Value))]).length = K.length + Kg.length + 1 := by rw [List.length_append, HLN.out]; rfl
            have HL9 := Lib.hid hln9
            have HK9 : Hid (OwnV v.heap.size w9 (.slice al9 (K ++ Kg ++ [(m[j].1, x7, (#[.int .i64 e0, .bool e1, .int .i64 e2, .string e3, .slice e4 e4l e4c, .slice e5 e5l e5c] : Array Value))]).length cl9) (K ++ Kg ++ [(m[j].1, x7, (#[.int .i64 e0, .bool e1, .int .i64 e2, .string e3, .slice e4 e4l e4c, .slice e5 e5l e5c] : Array Value))])) := by
              show OwnV _ _ _ _
              rw [hln9]
              refine HKR.out.step (L := [(m[j].1, x7, (#[.int .i64 e0, .bool e1, .int .i64 e2, .string e3, .slice e4 e4l e4c, .slice e5 e5l e5c] : Array Value))]) (fun i hi => ?_) (fun i hi => ?_) (by rw [HLN.out]; exact own9) (by rw [HLN.out]; exact hg9) (by rw [HLN.out]; exact hob9.imp id (fun h => h.trans (by simp)))
              · obtain rfl : i = 0 := by simp at hi; omega
                exact HLR.out.weaken fun b hb => ⟨by have := hr6.out.size; omega, hb.2, fun e => by have := (HK6.out.block e).2; omega⟩
              · obtain rfl : i = 0 := by simp at hi; omega
                exact hkeyj
            have HE9 : Hid ((K ++ Kg ++ [(m[j].1, x7, (#[.int .i64 e0, .bool e1, .int .i64 e2, .string e3, .slice e4 e4l e4c, .slice e5 e5l e5c] : Array Value))]).map strip ++ diffR (cutA m[j].1 rest) (m.drop (j + 1)) = diffR t.pairs m) := by
              show _ = _
              rw [← HE6.out, List.map_append, List.append_assoc]
              rfl
            have hb9 := Lib.hid (((hr6.out.trans (hb8.out.mono (show v.heap.size ≤ w6.heap.size by have := hr6.out.size; omega))).alloc (show v.heap.size ≤ (w7.alloc (.cells #[.int .i64 e0, .bool e1, .int .i64 e2, .string e3, .slice e4 e4l e4c, .slice e5 e5l e5c] 25)).heap.size by have := hr6.out.size; have := HS8.out; omega) (.cells #[.string m[j].1, .int .i64 e0, .bool e1, .int .i64 e2, .string e3, .slice e4 e4l e4c, .slice e5 e5l e5c] 36)).grown hg9 (by have := hr6.out.size; have := HS8.out; simp; omega) (fun g hg => (HK6.out.block (by rw [HLN.out]; exact hg)).1))
            clear own9 hg9 hob9 hln9 k8 xe0 xe1 xe2 xe3 xe4 xe5
            go_wp2_with fail
            go_roundw
            case rel => exact ⟨j + 1, cutA m[j].1 rest, a3, c3', cm3, al9, cl9, _, by omega, by go_num, rfl, by rw [HL9.out], HSA.out, HK9.out, HE9.out, by rw [HL9.out, HGL.out]; omega, HRA.out, hb9.out⟩
            case measure => simp [intOf]; omega
        · obtain rfl : j = m.length := by omega
          have hE : K.map strip ++ goneR rest = diffR t.pairs m := by
            have := HE.out
            rw [List.drop_length, diffR_nil] at this
            exact this
          have HEE := Lib.hid hE
          have GB := Lib.hid (gone_any HR.out (by omega))
          clear hE
          go_wp2_with fail
          refine (GB.out _ hwr).mono ?_
          rintro e w5 ⟨vg, Kg, rfl, hOG, hSG, hCG, hb5⟩
          obtain ⟨ag, cg, rfl, n1, n2, n3, n4⟩ := gone_news hOG hCG
          have N1 := Lib.hid n1
          have N2 := Lib.hid n2
          have N3 := Lib.hid n3
          have N4 := Lib.hid n4
          have HGL := Lib.hid (gone_len hSG)
          have HK5 := Lib.hid (HK.out.later hb5)
          have HOG := Lib.hid hOG
          have HSG := Lib.hid hSG
          have HCG := Lib.hid hCG
          have HB5 := Lib.hid hb5
          have hs5 := hb5.size
          clear n1 n2 n3 n4 hOG hSG hCG hb5
          go_wp2_with (at_builtin; (refine wpList_append_own_any _ rfl (.tmp 62) (.tmp 64) 23 rfl v.heap.size 36 i0 _ 7 104 Try.underlying23 HI0.out HZ0.out HZ1.out HZ2.out (by rfl) (by decide) (.slice al K.length cl') K.length _ rfl HK5.out.own ag Kg.length cg (flatQ Kg) rfl N1.out N2.out N3.out N4.out (by have := HGL.out; unfold maxLen; omega) (by have := HGL.out; omega) (by omega) ?_))
          intro v' w6 own6 hg6 hob6
          obtain ⟨al6, cl6, rfl⟩ := row_form own6
          have hln : (K ++ Kg).length = K.length + Kg.length := List.length_append
          have HK6 : Hid (OwnV v.heap.size w6 (.slice al6 (K ++ Kg).length cl6) (K ++ Kg)) := by
            show OwnV _ _ _ _
            rw [hln]
            exact HK5.out.gone HSG.out HCG.out HOG.out.keys own6 hg6 hob6
          have hmap6 : (K ++ Kg).map strip = diffR t.pairs m := by rw [List.map_append, HSG.out, HEE.out]
          obtain ⟨a6, c6, ev, hS6⟩ := HK6.out.done (by have := HGL.out; rw [hln]; omega)
          obtain ⟨rfl, rfl⟩ : al6 = a6 ∧ cl6 = c6 := by simpa using ev
          rw [hmap6] at hS6
          have HS6 := Lib.hid hS6
          have HLE : Hid (K.length + Kg.length = (diffR t.pairs m).length) := by
            show _ = _
            rw [← hmap6, List.length_map, hln]
          have hr6 := Lib.hid ((hbw.trans (HB5.out.mono (show v.heap.size ≤ wr.heap.size by omega))).grown hg6 (by omega) (fun g hg => (HK.out.block hg).1))
          have A6 := Lib.hid (bstep h3.out hr6.out h3.out.size)
          have hsv := HSZ.out
          have z2 : ∀ j', w6.cell? ⟨w.heap.size + 1 + 1, j', none⟩ = _ := fun j' => (hr6.out.cell (p := ⟨w.heap.size + 2, j', none⟩) (by simp only; omega)).trans (Q2.out j')
          have z3 : ∀ j', w6.frozen? ⟨w.heap.size + 1 + 1, j', none⟩ = _ := fun j' => (hr6.out.frozen (p := ⟨w.heap.size + 2, j', none⟩) (by simp only; omega)).trans (Q3.out j')
          have Z2 := Lib.hid z2
          clear own6 hg6 hob6 hmap6 hln ev hS6 hsv
          go_wp2_with fail
          refine ret_cells w6 (w.heap.size + 2) [.int .i64 5, .bool false, .int .i64 0, .string ⟨#[]⟩, .slice none 0 0, .slice al6 (K.length + Kg.length) cl6] rfl Try.results24 rfl rfl DD.out HU.out Try.sizeV (fun i hi => ⟨_, (Z2.out i).trans (Array.getElem?_eq_getElem (show i < 6 from hi))⟩) ?_
          rw [HLE.out]
          have hsv := HSZ.out
          exact ⟨_, rfl, Lies.of_slices (m := diffR t.pairs m) wf5 wf0 empty_size (empty_sliceV _ _) ((HS6.out.keepB (fun x hx _ => setRow_heap _ [.int .i64 5, .bool false, .int .i64 0, .string ⟨#[]⟩, .slice none 0 0, .slice al6 (diffR t.pairs m).length cl6] _ _ _ (by omega))).weaken (fun x hx => by have := hx; omega)), setRow_below _ (by omega) [.int .i64 5, .bool false, .int .i64 0, .string ⟨#[]⟩, .slice none 0 0, .slice al6 (diffR t.pairs m).length cl6] _ _ A6.out⟩

end Go.Proofs.Ytfhonjjhladddaa
