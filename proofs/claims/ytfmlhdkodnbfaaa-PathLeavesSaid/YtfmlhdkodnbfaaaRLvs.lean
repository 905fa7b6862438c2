/-
  The reference's Leaves.
-/
import Derived.Test.YtfmlhdkodnbfaaaRLvsP
import Derived.Test.YtfmlhdkodnbfaaaSpecsLM
import Derived.Test.YtfmlhdkodnbfaaaPathCM
set_option linter.unusedVariables false
set_option linter.unusedSimpArgs false
namespace Go.Proofs.Ytfmlhdkodnbfaaa
open Go.RowKit Go.Sort

theorem own_base {w : World} {base base' : Nat} {e : TypeId} {size : Nat} {v : Value} {n : Nat} {xs : List Value} (h : w.ownsRow base e size v n xs) (hb : base' ≤ base) : w.ownsRow base' e size v n xs := by
  refine ⟨h.1, h.2.imp id ?_⟩
  rintro ⟨g, cap, cur, h1, h2, h3⟩
  exact ⟨g, cap, cur, h1, Nat.le_trans hb h2, h3⟩
theorem len_le_sumP {α : Type} (f : α → Nat) : ∀ l : List α, (∀ x ∈ l, 1 ≤ f x) → l.length ≤ (l.map f).sum
  | [], _ => by simp
  | x :: r, h => by
    have h1 := h x (by simp)
    have h2 := len_le_sumP f r fun y hy => h y (by simp [hy])
    simp only [List.length_cons, List.map_cons, List.sum_cons]
    omega
set_option maxRecDepth 100000 in
set_option maxHeartbeats 8000000 in
theorem rleaves_any {w0 : World} {R : Nat → Prop} {t : T} {cs : Array Value} (h : Lies w0 R t cs) : ∀ (w : World), Below w0.heap.size w0 w → t.size ≤ 1000000 → Calls Try.prog 9 #[.agg cs] w (RLvIn w0 w (leavesT t)) := by
  induction h with
  | mk k b n0 s l m la lc ma mc cl cm hk hn hs hl hm rl rm ksz il im ihl ihm =>
    intro w hw hsz
    have HT := Lib.hid (Lies.mk (w := w0) k b n0 s l m la lc ma mc cl cm hk hn hs hl hm rl rm ksz il im)
    have HM : Hid (SliceP w0 R m ma mc cm) := ⟨hm, rm, ksz, im⟩
    have IH := Lib.hid ihm
    have hle := hm.le
    have hbig := hm.big
    have hws := hw.size
    have HW := Lib.hid hw
    have hb1 := (Below.refl w.heap.size w).alloc (Nat.le_refl _) (.cells #[.int .i64 k, .bool b, .int .i64 n0, .string s, .slice la l.length lc, .slice ma m.length mc] 25)
    have es : (w.alloc (.cells #[.int .i64 k, .bool b, .int .i64 n0, .string s, .slice la l.length lc, .slice ma m.length mc] 25)).heap.size = w.heap.size + 1 := by simp
    have BX := Lib.hid (Box6.new w #[.int .i64 k, .bool b, .int .i64 n0, .string s, .slice la l.length lc, .slice ma m.length mc] 25)
    have HB1 := Lib.hid hb1
    have ES := Lib.hid es
    have HZ : Hid (∀ j (h : j < m.length), (flatM (m.take j)).length + (leavesT m[j].2).length ≤ 1000000 ∧ m[j].2.size ≤ 1000000 ∧ ∀ q ∈ leavesT m[j].2, q.1.length + 1 ≤ 1000000) := fun j hj => by
      have h1 := psum_step (fun p : ByteArray × T => (leavesT p.2).length) (fun p => p.2.size) m (fun p _ => leaves_size p.2) j hj
      have h2 := le_sum (List.mem_map.2 ⟨m[j], List.getElem_mem hj, rfl⟩ : m[j].2.size ∈ m.map fun p => p.2.size)
      have h3 : (flatM (m.take j)).length = ((m.take j).map fun p => (leavesT p.2).length).sum := flatM_len (m.take j)
      have h4 := leaves_size m[j].2
      rw [T.size_mk] at hsz
      refine ⟨by omega, by omega, fun q hq => ?_⟩
      have h5 := leaf_len m[j].2 q hq
      omega
    have hml : m.length ≤ 1000000 := by
      have h1 := len_le_sumP (fun p : ByteArray × T => p.2.size) m (fun q _ => size_pos1 q.2)
      rw [T.size_mk] at hsz
      omega
    clear hk hn hs hl hm rl rm ksz il im ihl ihm hsz hb1 es hw
    by_cases hm0 : m.length = 0
    case pos =>
      have f2 : ((m.length : Int) == 0) = true := by rw [hm0]; rfl
      have LV : Hid (leavesT (T.mk k b n0 s l m) = [([], T.mk k b n0 s l m)]) := leaves_one (List.eq_nil_of_length_eq_zero hm0)
      obtain ⟨TT, hTe⟩ : ∃ TT, TT = T.mk k b n0 s l m := ⟨_, rfl⟩
      have HTT := HT
      rw [← hTe] at HTT LV
      have fin : ∀ v : World, v.heap.size = w.heap.size + 1 → Below w.heap.size w v → ∃ K : List LQ, OwnK (fun b => b < w0.heap.size) w.heap.size (v.alloc (.cells #[.slice none 0 0, .int .i64 k, .bool b, .int .i64 n0, .string s, .slice la l.length lc, .slice ma m.length mc] 36)) (.slice (some ⟨v.heap.size, 0, none⟩) 1 1) K ∧ K.map LQ.strip = [([], TT)] ∧ Below w.heap.size w (v.alloc (.cells #[.slice none 0 0, .int .i64 k, .bool b, .int .i64 n0, .string s, .slice la l.length lc, .slice ma m.length mc] 36)) := fun v hv hb => by
        have hb2 := hb.alloc hb.size (.cells #[.slice none 0 0, .int .i64 k, .bool b, .int .i64 n0, .string s, .slice la l.length lc, .slice ma m.length mc] 36)
        refine ⟨[⟨[], TT, none, 0, #[.int .i64 k, .bool b, .int .i64 n0, .string s, .slice la l.length lc, .slice ma m.length mc]⟩], ⟨?_, fun i hi => ?_⟩, rfl, hb2⟩
        · have := World.ownsRow_lit (base := w.heap.size) (e := 36) (size := 7) v #[.slice none 0 0, .int .i64 k, .bool b, .int .i64 n0, .string s, .slice la l.length lc, .slice ma m.length mc] 1 hb.size (by decide) rfl
          exact this
        · obtain rfl : i = 0 := by simpa using hi
          exact ⟨(HTT.out.bound.later (bstep HW.out hb2 HW.out.size)).weaken fun b hb => .inl hb.2, ⟨by simp, by simp, fun _ => rfl, fun hp => absurd hp (by simp), (show (0 : Nat) ≤ 9223372036854775807 by omega), fun i hi => absurd hi (by simp), fun i hi => absurd hi (by simp)⟩, fun b off e => (by cases e)⟩
      have FIN := Lib.hid fin
      clear fin hm0
      go_enter Try.func9, Try.ntmps9
      rw [← hTe]
      go_upto_region 1 with fail
      generalize (w.alloc (.cells #[.int .i64 k, .bool b, .int .i64 n0, .string s, .slice la l.length lc, .slice ma m.length mc] 25)) = v at *
      obtain ⟨x0, x1, x2, x3, x4, x5⟩ := BX.out.six
      obtain ⟨K, h1, h2, h3⟩ := FIN.out v ES.out HB1.out
      have H1 := Lib.hid h1
      have H2 := Lib.hid h2
      have H3 := Lib.hid h3
      clear h1 h2 h3 FIN
      go_wp2_with fail
      go_ret
      exact ⟨_, K, rfl, H1.out, by rw [LV.out]; exact H2.out, H3.out⟩
    case neg =>
      have f2 : ((m.length : Int) == 0) = false := by rw [beq_eq_false_iff_ne]; omega
      have LV : Hid (leavesT (T.mk k b n0 s l m) = flatM m) := leaves_flat (fun e => hm0 (by have e : m = [] := e; rw [e]; rfl))
      obtain ⟨i0, hi, hz0, hz1, hz2⟩ := info_parts Try.infoS
      have HI0 := Lib.hid hi
      have HI1 := Lib.hid hz0
      have HI2 := Lib.hid hz1
      have HI3 := Lib.hid hz2
      clear hi hz0 hz1 hz2
      obtain ⟨r0, hi, hz0, hz1, hz2⟩ := info_parts Try.infoRLeaf
      have HR0 := Lib.hid hi
      have HR1 := Lib.hid hz0
      have HR2 := Lib.hid hz1
      have HR3 := Lib.hid hz2
      clear hi hz0 hz1 hz2 hm0
      go_enter Try.func9, Try.ntmps9
      go_upto_region 1 with fail
      generalize (w.alloc (.cells #[.int .i64 k, .bool b, .int .i64 n0, .string s, .slice la l.length lc, .slice ma m.length mc] 25)) = v at *
      have hvs : w.heap.size + 1 ≤ v.heap.size := Nat.le_of_eq ES.out.symm
      have hvs2 : v.heap.size ≤ w.heap.size + 1 := Nat.le_of_eq ES.out
      obtain ⟨x0, x1, x2, x3, x4, x5⟩ := BX.out.six
      clear x0 x1 x2 x3 x4
      have hS : ∀ b, b < w0.heap.size → b < v.heap.size := fun b hb => by omega
      have X5 : Hid (∀ w', Below v.heap.size v w' → w'.cell? ⟨w.heap.size, 5, none⟩ = some (.slice ma m.length mc)) := fun w' hb => (hb.cell (p := ⟨w.heap.size, 5, none⟩) (show w.heap.size < v.heap.size by omega)).trans x5
      have HWV := Lib.hid (bstep HW.out HB1.out HW.out.size)
      go_wp2_with fail
      go_loopw [4, 3] (fun v4 v3 wr => ∃ (j : Nat) (a : Option Addr) (c : Nat) (K : List LQ), j ≤ m.length ∧ v4 = .int .i64 j ∧ v3 = .slice a K.length c ∧ Hid (OwnK (fun b => b < w0.heap.size) v.heap.size wr (.slice a K.length c) K) ∧ Hid (K.map LQ.strip = flatM (m.take j)) ∧ Hid (Below v.heap.size v wr)) (fun v4 _ _ => m.length - (intOf v4).toNat)
      case atStart => exact ⟨0, none, 0, [], by omega, rfl, rfl, OwnK.nil _ _ _, rfl, Below.refl _ _⟩
      case round =>
        obtain ⟨j, a, c, K, hj, rfl, rfl, HK, HE, HV⟩ := hrel
        have x5 := X5.out wr HV.out
        by_cases hjl : j < m.length
        · have hWw : Below w0.heap.size w0 wr := bstep HWV.out HV.out HWV.out.size
          obtain ⟨bl, ol, c0, c1, c2, c3, c4, c4l, c4c, c5, c5l, c5c, hma, hc, p0, p1, p2, p3, p4, p5, p6⟩ := openM hWw HM.out.hdr HM.out.rows hjl (HM.out.each j hjl)
          subst hma
          obtain ⟨hz1, hz2, hz3⟩ := HZ.out j hjl
          have IHj := IH.out j hjl wr hWw hz2
          rw [hc] at IHj
          have IHJ := Lib.hid IHj
          have hko := HM.out.keys j hjl
          have TK := Lib.hid (flatM_take m j hjl)
          have HZ3 := Lib.hid hz3
          have P0 : Hid (∀ w', Below w0.heap.size w0 w' → w'.cell? ⟨bl, ol + j * 7, none⟩ = some (.string m[j].1)) := fun w' hw' => by
            obtain ⟨bl', ol', c0', c1', c2', c3', c4', c4l', c4c', c5', c5l', c5c', hma', hc', p0', _⟩ := openM hw' HM.out.hdr HM.out.rows hjl (HM.out.each j hjl)
            obtain ⟨rfl, rfl⟩ : bl = bl' ∧ ol = ol' := by simpa using hma'
            exact p0'
          generalize leavesT m[j].2 = lj at IHJ hz1 HZ3 TK
          clear hc IHj hz2 hz3
          go_upto_region 8 with (go_at_call 9; refine IHJ.out.mono ?_; rintro e w5 ⟨v5, K5, rfl, ho5, hs5, hb5⟩; have HO5 := Lib.hid ho5; have HS5 := Lib.hid hs5; have HB5 := Lib.hid hb5; clear ho5 hs5 hb5)
          obtain ⟨a5', c5', e5'⟩ := row_form HO5.out.own
          subst e5'
          have HK5 : Hid (K5.length = lj.length) := by show _ = _; rw [← HS5.out, List.length_map]
          have hK5b : K5.length ≤ 1000000 := by have := HK5.out; omega
          have HKJ := Lib.hid (HK.out.later HB5.out)
          have HV5 := Lib.hid (bstep HV.out HB5.out HV.out.size)
          have hvr := HV.out.size
          have hr5 := HB5.out.size
          have hv0 : Hid (∀ g, (Value.slice a K.length c).ownBlock = some g → v.heap.size ≤ g ∧ g < wr.heap.size) := fun g hg => HK.out.own.lt g hg
          clear IHJ p0 p1 p2 p3 p4 p5 p6 x5
          generalize wr = wj at *
          go_wp2_with fail
          go_loopw [6, 3] (fun v6 v3 wx => ∃ (k : Nat) (a' : Option Addr) (c' : Nat) (K' : List LQ), k ≤ K5.length ∧ v6 = .int .i64 k ∧ v3 = .slice a' K'.length c' ∧ Hid (InK (fun b => b < w0.heap.size) v.heap.size w5 (.slice a K.length c) wx (.slice a' K'.length c') K') ∧ Hid (K'.map LQ.strip = flatM (m.take j) ++ (lj.take k).map fun q => (m[j].1 :: q.1, q.2))) (fun v6 _ _ => K5.length - (intOf v6).toNat)
          case atStart => exact ⟨0, a, c, K, by omega, rfl, rfl, InK.start HKJ.out, by show _ = _; rw [HE.out]; simp⟩
          case round =>
            obtain ⟨k2, a', c', K', hk2, rfl, rfl, HI, HF⟩ := hrel
            have HVX := Lib.hid (HV5.out.trans HI.out.below)
            by_cases hkl : k2 < K5.length
            · obtain ⟨ho, hea⟩ := HI.out.other hS hv0.out HO5.out hvr
              obtain ⟨a6, c6, e6, _, _, hsome, hrows⟩ := own_rows ho fun i hi => (hea i hi).row7
              obtain ⟨rfl, rfl⟩ : a5' = a6 ∧ c5' = c6 := by simpa using e6
              obtain ⟨b5, o5, rfl⟩ := hsome (by omega)
              have hrow := hrows k2 hkl b5 o5 rfl
              have hlf := hea k2 hkl
              have hstr : K5[k2].strip = lj[k2]'(by have := HK5.out; omega) := by
                have := HS5.out
                subst this
                simp
              have hlen : K5[k2].path.length + 1 ≤ 1000000 := by
                have h1 : K5[k2].path = (lj[k2]'(by have := HK5.out; omega)).1 := by rw [← hstr]; rfl
                rw [h1]
                exact HZ3.out _ (List.getElem_mem _)
              have hK'l : K'.length ≤ 1000000 := by
                have := congrArg List.length HF.out
                rw [List.length_map, List.length_append, List.length_map, List.length_take] at this
                omega
              have HF2 : Hid (∀ q : LQ, q.path = m[j].1 :: K5[k2].path → q.val = K5[k2].val → (K' ++ [q]).map LQ.strip = flatM (m.take j) ++ (lj.take (k2 + 1)).map fun q => (m[j].1 :: q.1, q.2)) := fun q h1 h2 => by
                rw [List.map_append, HF.out, List.take_succ_eq_append_getElem (by have := HK5.out; omega), List.map_append, List.append_assoc]
                congr 2
                rw [← hstr]
                simp [LQ.strip, h1, h2]
              generalize K5[k2] = q5 at hrow hlf hlen HF2
              clear ho hea hrows hsome hstr e6
              obtain ⟨qp, qv, qa, qc, qd⟩ := q5
              obtain ⟨d0, d1, d2, d3, d4, d4l, d4c, d5, d5l, d5c, e9⟩ := hlf.val.six
              have e9 : qd = #[.int .i64 d0, .bool d1, .int .i64 d2, .string d3, .slice d4 d4l d4c, .slice d5 d5l d5c] := e9
              subst e9
              obtain ⟨s0, s1, s2, s3, s4, s5, s6⟩ := Row.seven (show Row wr b5 (o5 + k2 * 7) #[.slice qa qp.length qc, .int .i64 d0, .bool d1, .int .i64 d2, .string d3, .slice d4 d4l d4c, .slice d5 d5l d5c] from hrow)
              have HQ := Lib.hid hlf
              have S0 := Lib.hid s0
              have hlen : qp.length + 1 ≤ 1000000 := hlen
              have x5 := X5.out wr HVX.out
              have p0 := P0.out wr (bstep HWV.out HVX.out HWV.out.size)
              have ha1 := (Below.refl wr.heap.size wr).alloc (Nat.le_refl _) (.cells #[.string m[j].1] 9)
              have HA1 := Lib.hid ha1
              have hnil := World.ownsRow_nil (wr.alloc (.cells #[.string m[j].1] 9)) wr.heap.size 9 1
              have hcel : ∀ ad, some (⟨wr.heap.size, 0, none⟩ : Addr) = some ad → ∀ (j' : Nat) u, [Value.string m[j].1][j']? = some u → (wr.alloc (.cells #[.string m[j].1] 9)).cell? (ad.add j') = some u := fun ad e j' u hu => by
                injection e with e
                subst e
                rw [Addr.add_lit, Nat.zero_add, World.cell?_alloc_new]
                cases j' with
                | zero => injection hu with hu; rw [hu]; rfl
                | succ j' => cases hu
              have HNIL := Lib.hid hnil
              have HCEL := Lib.hid hcel
              clear hrow hlf ha1 hnil hcel
              go_wp2_with (at_builtin; refine wpList_append_own_any _ rfl (.tmp 35) (.tmp 42) 33 rfl wr.heap.size 9 i0 _ 1 16 Try.underlying33 HI0.out HI1.out HI2.out HI3.out rfl (by decide) _ 0 _ rfl HNIL.out _ 1 1 [.string m[j].1] rfl rfl (fun e => by cases e) HCEL.out (fun u hu => by simp at hu; subst hu; rfl) (by unfold maxLen; omega) (by omega) (by simp) ?_)
              intro v6 w6 own6 hg6 hob6
              have hb6 : Below wr.heap.size wr w6 := HA1.out.grown hg6 (by simp) (fun g hg => by cases hg)
              have own6' : w6.ownsRow wr.heap.size 9 1 v6 1 [Value.string m[j].1] := by simpa using own6
              obtain ⟨a7, c7, e7⟩ := row_form own6'
              subst e7
              have OW6 := Lib.hid own6'
              have HB6 := Lib.hid hb6
              have hs6 := hb6.size
              have hst := HQ.out.steps
              have hcel : ∀ ad, qa = some ad → ∀ (j' : Nat) u, (qp.map Value.string)[j']? = some u → w6.cell? (ad.add j') = some u := fun ad e j' u hu => by
                have hj' : j' < qp.length := by
                  have := (List.getElem?_eq_some_iff.1 hu).1
                  simpa using this
                obtain ⟨b, off, e2⟩ := hst.ofSome (by show 0 < qp.length; omega)
                have e3 : ad = ⟨b, off, none⟩ := by
                  have e2 : qa = some ⟨b, off, none⟩ := e2
                  rw [e] at e2
                  injection e2
                subst e3
                rw [Addr.add_lit]
                have h1 := cells_frame HB6.out (hst.cell j' hj' b off e2)
                rw [h1]
                rw [List.getElem?_map, List.getElem?_eq_getElem hj'] at hu
                exact hu
              have hnone : qa = none → qp.length = 0 ∧ qc = 0 := fun e => by
                have h1 := hst.ofNone e
                have h2 : qp.length ≤ qc := hst.le
                have h1 : qc = 0 := h1
                exact ⟨by omega, h1⟩
              have HCEL2 := Lib.hid hcel
              have HNO := Lib.hid hnone
              have s0' := cells_frame hb6 s0
              clear hcel hnone own6 own6' hg6 hob6 hb6 hst x5 p0 s0 HCEL HNIL
              go_wp2_with (at_builtin; refine wpList_append_own_any _ rfl (.tmp 44) (.tmp 49) 33 rfl wr.heap.size 9 i0 _ 1 16 Try.underlying33 HI0.out HI1.out HI2.out HI3.out rfl (by decide) _ 1 _ rfl OW6.out qa qp.length qc (qp.map Value.string) rfl (by simp) HNO.out HCEL2.out (fun u hu => by obtain ⟨y, _, rfl⟩ := List.mem_map.1 hu; rfl) (by unfold maxLen; omega) (by omega) (by omega) ?_)
              intro v7 w7 own7 hg7 hob7
              have hb7 : Below wr.heap.size wr w7 := HB6.out.grown hg7 hs6 (fun g hg => (OW6.out.lt g hg).1)
              have own7' : w7.ownsRow wr.heap.size 9 1 v7 (m[j].1 :: qp).length ((m[j].1 :: qp).map Value.string) := by
                rw [List.length_cons, Nat.add_comm]
                exact own7
              have h7lt := own7'.lt
              obtain ⟨a8, c8, e8, hSS, hab⟩ := own_texts own7' (by rw [List.length_cons]; omega) (fun i hi => by
                cases i with
                | zero => exact hko
                | succ i => exact HQ.out.steps.sizes i (by simpa using hi))
              subst e8
              have HB7 := Lib.hid hb7
              have hs7 := hb7.size
              have HSS := Lib.hid hSS
              have hvx : ∀ g, (Value.slice a' K'.length c').ownBlock = some g → g < wr.heap.size := fun g hg => (HI.out.ok.own.lt g hg).2
              have HAB : Hid (∀ b off, a8 = some ⟨b, off, none⟩ → wr.heap.size ≤ b ∧ b < w7.heap.size) := fun b off e => h7lt b (hab b off e)
              have hb8 := HB7.out.alloc hs7 (.cells #[.slice a8 (m[j].1 :: qp).length c8, .int .i64 d0, .bool d1, .int .i64 d2, .string d3, .slice d4 d4l d4c, .slice d5 d5l d5c] 36)
              have hq8 : LeafIn (w7.alloc (.cells #[.slice a8 (m[j].1 :: qp).length c8, .int .i64 d0, .bool d1, .int .i64 d2, .string d3, .slice d4 d4l d4c, .slice d5 d5l d5c] 36)) (fun b => b < w0.heap.size ∨ (v.heap.size ≤ b ∧ b < (w7.alloc (.cells #[.slice a8 (m[j].1 :: qp).length c8, .int .i64 d0, .bool d1, .int .i64 d2, .string d3, .slice d4 d4l d4c, .slice d5 d5l d5c] 36)).heap.size ∧ (Value.slice a' K'.length c').ownBlock ≠ some b)) ⟨m[j].1 :: qp, qv, a8, c8, #[.int .i64 d0, .bool d1, .int .i64 d2, .string d3, .slice d4 d4l d4c, .slice d5 d5l d5c]⟩ := by
                have hsz : (w7.alloc (.cells #[.slice a8 (m[j].1 :: qp).length c8, .int .i64 d0, .bool d1, .int .i64 d2, .string d3, .slice d4 d4l d4c, .slice d5 d5l d5c] 36)).heap.size = w7.heap.size + 1 := by simp
                refine ⟨(HQ.out.val.later hb8).weaken fun b hb => hb.imp id fun ⟨h1, h2, h3⟩ => ⟨h1, by omega, h3⟩, HSS.out.later ((Below.refl _ _).alloc (Nat.le_refl _) _), fun b off e _ => ?_⟩
                have h1 := HAB.out b off e
                have h2 := HVX.out.size
                exact .inr ⟨by omega, by omega, fun e2 => by have := hvx b e2; omega⟩
              have HQ8 := Lib.hid hq8
              have HB8 := Lib.hid hb8
              have own8 : (w7.alloc (.cells #[.slice a8 (m[j].1 :: qp).length c8, .int .i64 d0, .bool d1, .int .i64 d2, .string d3, .slice d4 d4l d4c, .slice d5 d5l d5c] 36)).ownsRow v.heap.size 36 7 (.slice a' K'.length c') K'.length (flatK K') := own_sameH HI.out.ok.own fun g hg => hb8.block g (hvx g hg)
              have OW8 := Lib.hid own8
              have hcel : ∀ ad, some (⟨w7.heap.size, 0, none⟩ : Addr) = some ad → ∀ (j' : Nat) u, (#[Value.slice a8 (m[j].1 :: qp).length c8, .int .i64 d0, .bool d1, .int .i64 d2, .string d3, .slice d4 d4l d4c, .slice d5 d5l d5c] : Array Value).toList[j']? = some u → (w7.alloc (.cells #[.slice a8 (m[j].1 :: qp).length c8, .int .i64 d0, .bool d1, .int .i64 d2, .string d3, .slice d4 d4l d4c, .slice d5 d5l d5c] 36)).cell? (ad.add j') = some u := fun ad e j' u hu => by
                injection e with e
                subst e
                exact lit_cells w7 _ 36 j' u hu
              have HCEL3 := Lib.hid hcel
              have s0 := cells_frame hb7 (show wr.cell? ⟨b5, o5 + k2 * 7, none⟩ = some (.slice qa qp.length qc) from S0.out)
              have s1 := cells_frame hb7 s1
              have s2 := cells_frame hb7 s2
              have s3 := cells_frame hb7 s3
              have s4 := cells_frame hb7 s4
              have s5 := cells_frame hb7 s5
              have s6 := cells_frame hb7 s6
              have hvw := HVX.out.size
              have e1 : (m[j].1 :: qp).length = qp.length + 1 := List.length_cons
              rw [e1] at HQ8 HB8 OW8 HCEL3
              clear hcel own7 own7' hg7 hob7 hb7 hb8 hSS hab h7lt hq8 own8 s0' HCEL2 HNO
              go_wp2_with (at_builtin; refine wpList_append_own_any _ rfl (.tmp 51) (.tmp 59) 30 rfl v.heap.size 36 r0 _ 7 112 Try.underlying30 HR0.out HR1.out HR2.out HR3.out rfl (by decide) _ K'.length _ rfl OW8.out _ 1 1 (#[Value.slice a8 (qp.length + 1) c8, .int .i64 d0, .bool d1, .int .i64 d2, .string d3, .slice d4 d4l d4c, .slice d5 d5l d5c] : Array Value).toList rfl rfl (fun e => by cases e) HCEL3.out (fun u hu => by simp at hu; rcases hu with rfl | rfl | rfl | rfl | rfl | rfl | rfl <;> rfl) (by unfold maxLen; omega) (by omega) (by simp; omega) ?_)
              intro v9 w9 own9 hg9 hob9
              obtain ⟨a9, c9, e9⟩ := row_form own9
              subst e9
              have erow : (⟨m[j].1 :: qp, qv, a8, c8, #[.int .i64 d0, .bool d1, .int .i64 d2, .string d3, .slice d4 d4l d4c, .slice d5 d5l d5c]⟩ : LQ).row = #[.slice a8 (qp.length + 1) c8, .int .i64 d0, .bool d1, .int .i64 d2, .string d3, .slice d4 d4l d4c, .slice d5 d5l d5c] := by
                show #[Value.slice a8 (m[j].1 :: qp).length c8] ++ _ = _
                rw [e1]
                rfl
              have hin := HI.out.step hS HB8.out hvw HQ8.out (by rw [erow]; exact own9) hg9 (hob9.imp id fun e => by rw [e, World.size_alloc])
              have HIN := Lib.hid hin
              have HF3 := Lib.hid (HF2.out ⟨m[j].1 :: qp, qv, a8, c8, #[.int .i64 d0, .bool d1, .int .i64 d2, .string d3, .slice d4 d4l d4c, .slice d5 d5l d5c]⟩ rfl rfl)
              have hlk : (K' ++ [(⟨m[j].1 :: qp, qv, a8, c8, #[.int .i64 d0, .bool d1, .int .i64 d2, .string d3, .slice d4 d4l d4c, .slice d5 d5l d5c]⟩ : LQ)]).length = K'.length + 1 := by rw [List.length_append]; rfl
              generalize K' ++ [(⟨m[j].1 :: qp, qv, a8, c8, #[.int .i64 d0, .bool d1, .int .i64 d2, .string d3, .slice d4 d4l d4c, .slice d5 d5l d5c]⟩ : LQ)] = K9 at HIN HF3 hlk
              rw [← hlk] at HIN
              clear own9 hg9 hob9 hin erow e1
              go_wp2_with fail
              go_roundw
              case rel => exact ⟨k2 + 1, a9, c9, K9, by omega, by go_num, by rw [hlk], HIN.out, HF3.out⟩
              case measure => simp [intOf]; omega
            · obtain rfl : k2 = K5.length := by omega
              have HE2 : Hid (K'.map LQ.strip = flatM (m.take (j + 1))) := by
                show _ = _
                rw [TK.out, HF.out, HK5.out, List.take_length]
              go_wp2_with fail
              go_roundw
              case rel => exact ⟨j + 1, a', c', K', by omega, by go_num, rfl, HI.out.ok, HE2.out, HVX.out⟩
              case measure => simp [intOf]; omega
        · obtain rfl : j = m.length := by omega
          have HF : Hid (K.map LQ.strip = flatM m) := by have := HE.out; rw [List.take_length] at this; exact this
          go_wp2_with fail
          go_ret
          exact ⟨_, K, rfl, ⟨own_base HK.out.own (by omega), fun i hi => (HK.out.each i hi).weaken fun b hb => hb.imp id fun ⟨h1, h2⟩ => ⟨by omega, h2⟩⟩, by rw [LV.out]; exact HF.out, bstep HB1.out HV.out HB1.out.size⟩

end Go.Proofs.Ytfmlhdkodnbfaaa
