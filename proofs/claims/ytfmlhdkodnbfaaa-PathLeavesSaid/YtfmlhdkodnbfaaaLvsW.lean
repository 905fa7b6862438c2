/-
  path.Leaves' closure.
-/
import Derived.Test.YtfmlhdkodnbfaaaLvsP
import Derived.Test.YtfmlhdkodnbfaaaLeafD
import Derived.Test.YtfmlhdkodnbfaaaSpecsC
set_option linter.unusedVariables false
set_option linter.unusedSimpArgs false
namespace Go.Proofs.Ytfmlhdkodnbfaaa
open Go.RowKit Go.Sort

theorem Tail.down {wr w1 w' : World} {n : Nat} {sv sv' : Value} (h : Tail w1 n sv sv' w') (hb : Below wr.heap.size wr w1) : Tail wr n sv sv' w' := by
  have := hb.size
  cases h with
  | same g cap h1 h2 => exact .same g cap h1 h2
  | own g h1 h2 h3 => exact .own g h1 (by omega) fun b hlt => (h3 b (by omega)).trans (hb.block b hlt)
theorem Tail.later {w1 w' w2 : World} {n : Nat} {sv sv' : Value} (h : Tail w1 n sv sv' w') (h1 : w1.heap.size ≤ w'.heap.size) (hb : Below w'.heap.size w' w2) : Tail w1 n sv sv' w2 := by
  cases h with
  | same g cap h1 h2 => exact .same g cap h1 h2
  | own g h1 h2 h3 => exact .own g h1 h2 fun b hlt => (hb.block b (by omega)).trans (h3 b hlt)
theorem wp_append_tail {P : Program} {o : Oper} {a : Act} {w : World} {K : Act → World → Prop} {Q : Exit → Act → World → Prop}
    (hg : o.guard = none) (s x : Operand) (t : TypeId) (hop : o.op = Op.call { callee := Callee.builtin Builtin.append, args := #[s, x], argTypes := #[t, t] })
    (base : Nat) (e : TypeId) (i : TypeInfo) (z : Value) (size bytes : Nat) (ht : P.underlying t = some (.slice e)) (hi : P.info? e = some i) (hz : i.zero = some z)
    (hsize : i.size = size) (hby : i.bytes = bytes) (hzs : z.cells.size = size) (hsz : 0 < size)
    (v : Value) (n : Nat) (xs : List Value) (hs : a.eval s = v) (hown : w.ownsRow base e size v n xs)
    (ad : Addr) (c : Nat) (news : List Value) (hx : a.eval x = .slice (some ad) 1 c) (hl : news.length = 1 * size) (hnews : ∀ j u, news[j]? = some u → w.cell? (ad.add j) = some u) (h1 : ∀ u ∈ news, u.oneCell' = true)
    (h63 : n + 1 ≤ maxLen) (hbytes : (n + 1) * bytes ≤ 140737488355328) (hbase : base ≤ w.heap.size)
    (hK : ∀ v' w', w'.ownsRow base e size v' (n + 1) (xs ++ news) → w.grownBy w' v.ownBlock → ((∃ g cap, v = .slice (some ⟨g, 0, none⟩) n cap ∧ v' = .slice (some ⟨g, 0, none⟩) (n + 1) cap) ∨ (v'.ownBlock = some w.heap.size ∧ w.grownBy w' none)) → K (a.put o.dst v') w') : o.wp P a w K Q := by
  obtain ⟨v', w', hr, h2, h3, h5⟩ := run_append_tail (P := P) w base t o.type e i z size bytes ht hi hz hsize hby hzs hsz v n xs hown ad c news hl hnews h1 h63 hbytes hbase
  unfold Oper.wp
  simp [execOp, hop, resolve, invoke, builtin, hs, hx, hr, Result.andThen]
  exact hK v' w' h2 h3 h5
theorem size_pos1 (t : T) : 1 ≤ t.size := by
  obtain ⟨k, b, n, s, l, m⟩ := t
  rw [T.size_mk]
  omega
theorem flatM_take (m : Prs) (j : Nat) (h : j < m.length) : flatM (m.take (j + 1)) = flatM (m.take j) ++ (leavesT m[j].2).map fun q => (m[j].1 :: q.1, q.2) := by
  unfold flatM
  rw [List.take_succ_eq_append_getElem h, List.map_append, List.flatten_append]
  simp
theorem flatM_len (m : Prs) : (flatM m).length = (m.map fun p => (leavesT p.2).length).sum := by
  unfold flatM
  rw [List.length_flatten, List.map_map]
  congr 1
  exact List.map_congr_left fun p _ => by simp
theorem psum_step {α : Type} (f g : α → Nat) (l : List α) (hfg : ∀ x ∈ l, f x ≤ g x) (j : Nat) (h : j < l.length) : ((l.take j).map f).sum + g l[j] ≤ (l.map g).sum := by
  have h1 := psum_le g l (j + 1)
  rw [psum_succ g l j h] at h1
  have h2 : ((l.take j).map f).sum ≤ psum g l j := sum_le_sum fun x hx => hfg x (List.mem_of_mem_take hx)
  omega

set_option maxRecDepth 100000 in
set_option maxHeartbeats 8000000 in
theorem walk_any {w0 : World} {R : Nat → Prop} {t : T} {cs : Array Value} (h : Lies w0 R t cs) : ∀ (B : Nat) (w : World) (lv sv : Value) (n : Nat) (xs : List Value) (ks : List ByteArray), t.parts = 0 → Below w0.heap.size w0 w → w0.heap.size ≤ B → WSt B w lv sv n xs ks → t.size + n ≤ 1000000 → t.size + ks.length ≤ 1000000 →
    Calls Try.prog 21 #[.agg cs, sv, .pointer (some ⟨B, 0, none⟩), .pointer (some ⟨B + 1, 0, none⟩)] w (WRet B w lv sv n xs ks (leavesT t)) := by
  induction h with
  | mk k b n0 s l m la lc ma mc cl cm hk hn hs hl hm rl rm ksz il im ihl ihm =>
    intro B w lv sv n xs ks hp hw hwB hst hsn hsk
    have HT := Lib.hid (Lies.mk (w := w0) k b n0 s l m la lc ma mc cl cm hk hn hs hl hm rl rm ksz il im)
    have HM : Hid (SliceP w0 R m ma mc cm) := ⟨hm, rm, ksz, im⟩
    have IH := Lib.hid ihm
    have hle := hm.le
    have hbig := hm.big
    have FN := Lib.hid (fine_of hp)
    have HS1 : Hid (∀ j (h : j < m.length), (flatM (m.take j)).length + m[j].2.size + n ≤ 1000000 ∧ m[j].2.size + ks.length + 1 ≤ 1000000) := fun j hj => by
      have h1 := psum_step (fun p : ByteArray × T => (leavesT p.2).length) (fun p => p.2.size) m (fun p _ => leaves_size p.2) j hj
      have h2 := le_sum (List.mem_map.2 ⟨m[j], List.getElem_mem hj, rfl⟩ : m[j].2.size ∈ m.map fun p => p.2.size)
      have h3 := flatM_len (m.take j)
      rw [T.size_mk] at hsn hsk
      have h4 : (flatM (m.take j)).length = ((m.take j).map fun p => (leavesT p.2).length).sum := h3
      exact ⟨by omega, by omega⟩
    have hn1 : n + 1 ≤ 1000000 := by
      have := size_pos1 (T.mk k b n0 s l m)
      omega
    have hk1 : ks.length + 1 ≤ 1000000 := by
      have := size_pos1 (T.mk k b n0 s l m)
      omega
    obtain ⟨la0, lc0, rfl⟩ := row_form hst.own
    obtain ⟨sa0, sc0, rfl⟩ := row_form hst.steps
    have hBw := hst.sizeB
    have hb1 := (Below.refl w.heap.size w).alloc (Nat.le_refl _) (.cells #[.int .i64 k, .bool b, .int .i64 n0, .string s, .slice la l.length lc, .slice ma m.length mc] 25)
    have es : (w.alloc (.cells #[.int .i64 k, .bool b, .int .i64 n0, .string s, .slice la l.length lc, .slice ma m.length mc] 25)).heap.size = w.heap.size + 1 := by simp
    have BX := Lib.hid (Box6.new w #[.int .i64 k, .bool b, .int .i64 n0, .string s, .slice la l.length lc, .slice ma m.length mc] 25)
    have HST := Lib.hid (hst.later hb1)
    have HB1 := Lib.hid hb1
    have hlv : ∀ g, (Value.slice la0 n lc0).ownBlock = some g → B + 2 ≤ g ∧ g < w.heap.size := fun g hg => hst.own.lt g hg
    have hsv : ∀ g, (Value.slice sa0 ks.length sc0).ownBlock = some g → B + 2 ≤ g ∧ g < w.heap.size := fun g hg => hst.steps.lt g hg
    have HLV := Lib.hid hlv
    have HSV := Lib.hid hsv
    have ES := Lib.hid es
    have HWV := Lib.hid (bstep hw hb1 hw.size)
    clear hk hn hs hl hm rl rm ksz il im ihl ihm hsn hsk hst hb1 es hp hlv hsv hw
    go_enter Try.func21, Try.ntmps21
    go_upto_region 1 with fail
    generalize (w.alloc (.cells #[.int .i64 k, .bool b, .int .i64 n0, .string s, .slice la l.length lc, .slice ma m.length mc] 25)) = v at *
    have hvs : v.heap.size = w.heap.size + 1 := ES.out
    obtain ⟨x0, x1, x2, x3, x4, x5⟩ := BX.out.six
    clear ES
    by_cases hl0 : k ≠ 5 ∨ m.length = 0
    case pos =>
      have LV : leavesT (T.mk k b n0 s l m) = [([], T.mk k b n0 s l m)] := by
        refine leaves_one ?_
        rcases hl0 with h5 | h0
        · have := FN.out.pairs
          rw [T.pairs, if_neg h5] at this
          exact this
        · exact List.eq_nil_of_length_eq_zero h0
      obtain ⟨TT, hTe⟩ : ∃ TT, TT = T.mk k b n0 s l m := ⟨_, rfl⟩
      have HTT := HT
      rw [← hTe] at HTT
      have LVT : Hid (leavesT (T.mk k b n0 s l m) = [([], TT)]) := by show _ = _; rw [LV, hTe]
      clear hTe LV
      rcases hl0 with h5 | h0
      · have f1 : (k != 5) = true := by simp [h5]
        clear h5
        obtain ⟨i0, hi, hz0, hz1, hz2⟩ := info_parts Try.infoLeaf
        have HI0 := Lib.hid hi
        have HZ0 := Lib.hid hz0
        have HZ1 := Lib.hid hz1
        have HZ2 := Lib.hid hz2
        clear hi hz0 hz1 hz2
        go_upto_region 2 with fail
        have hq : ∃ v0, v0 = v := ⟨v, rfl⟩
        clear hq
        have hvB : B + 2 ≤ v.heap.size := HST.out.sizeB
        obtain ⟨a0', c0', e0', HSS, hsb⟩ := own_texts HST.out.steps (by omega) HST.out.sizes
        obtain ⟨rfl, rfl⟩ : sa0 = a0' ∧ sc0 = c0' := by simpa using e0'
        clear e0'
        have HSSH := Lib.hid HSS
        have HSB := Lib.hid hsb
        clear HSS hsb
        have hlt : ∀ g, (Value.slice la0 n lc0).ownBlock = some g → B + 2 ≤ g ∧ g < v.heap.size := fun g hg => by have := HLV.out g hg; omega
        have HLT := Lib.hid hlt
        clear hlt
        refine wp_region_grows (fun wx => v.heap.size ≤ wx.heap.size ∧ Below B v wx ∧ ∀ b, b < v.heap.size → (Value.slice la0 n lc0).ownBlock ≠ some b → wx.heap[b]? = v.heap[b]?) (fun wx => wx.ownsRow (B + 2) 35 7 (Value.slice la0 n lc0) n xs) (fun w1 w2 => w1.grownBy w2 (Value.slice la0 n lc0).ownBlock ∧ v.heap.size ≤ w1.heap.size) 7 8 (fun i => 17 + i) (fun i x wx => match i with
            | 0 => x = .slice la0 n lc0 | 1 => x = .slice sa0 ks.length sc0
            | 2 => ∃ a c, x = .slice a ks.length c ∧ SliceS wx ks a c ∧ ∀ b off, a = some ⟨b, off, none⟩ → v.heap.size ≤ b
            | 3 => x = .agg #[.int .i64 k, .bool b, .int .i64 n0, .string s, .slice la l.length lc, .slice ma m.length mc]
            | 4 => ∃ ds : Array Value, x = .agg ds ∧ Lies wx (fun b => v.heap.size ≤ b) TT ds
            | 5 => ∃ q : LQ, x = .agg q.row ∧ q.path = ks ∧ q.val = TT ∧ LeafIn wx (fun b => v.heap.size ≤ b) q
            | 6 => ∃ (g : Nat) (q : LQ), x = .slice (some ⟨g, 0, none⟩) 1 1 ∧ (∀ j' u, q.row.toList[j']? = some u → wx.cell? ⟨g, j', none⟩ = some u) ∧ q.path = ks ∧ q.val = TT ∧ LeafIn wx (fun b => v.heap.size ≤ b) q ∧ v.heap.size ≤ g ∧ g < wx.heap.size
            | 7 => ∃ (a7 : Option Addr) (e7 : Nat) (q : LQ), x = .slice a7 (n + 1) e7 ∧ wx.ownsRow (B + 2) 35 7 (.slice a7 (n + 1) e7) (n + 1) (xs ++ q.row.toList) ∧ ((Value.slice a7 (n + 1) e7).ownBlock = (Value.slice la0 n lc0).ownBlock ∨ ∃ g, (Value.slice a7 (n + 1) e7).ownBlock = some g ∧ v.heap.size ≤ g) ∧ q.path = ks ∧ q.val = TT ∧ LeafIn wx (fun b => v.heap.size ≤ b ∧ b < wx.heap.size ∧ (Value.slice a7 (n + 1) e7).ownBlock ≠ some b) q
            | _ => True) (fun _ wx => ∃ lv' K, WOut B v (Value.slice la0 n lc0) (Value.slice sa0 ks.length sc0) n xs ks [([], TT)] wx lv' K) (by kernel_rfl) (by kernel_rfl) ?g1 (by decide) ⟨Nat.le_refl _, (Below.refl _ _).drew, fun _ _ _ => rfl⟩ HST.out.own.drew ?g2 ?g3 ?g4 ?g5 ?g6 ?g7 ?g8 ?g9 ?g10
        case g1 => intro i hi; exact Nat.lt_of_lt_of_le (show 17 + i < 42 by omega) (Nat.le_refl 42)
        case g2 => exact fun w1 w2 hb ⟨h1, h2, h3⟩ => ⟨Nat.le_trans h1 hb.size, bstep h2 hb (by omega), fun b hb2 hn => (hb.block b (by omega)).trans (h3 b hb2 hn)⟩
        case g3 => exact fun w1 w2 ⟨hg, hsz2⟩ ⟨h1, h2, h3⟩ => ⟨Nat.le_trans h1 hg.size, h2.grown hg (by omega) (fun g hg2 => by have := (HLT.out g hg2).1; omega), fun b hb2 hn => (hg.block b (by omega) (fun e => hn e.symm)).trans (h3 b hb2 hn)⟩
        case g4 => exact fun w1 w2 hb h => own_sameH h fun g hg => hb.block g (h.lt g hg).2
        case g5 =>
          intro i x w1 w2 hip hR hU
          obtain ⟨hg, hsz2⟩ := hR
          have hob : ∀ b, v.heap.size ≤ b → b < w1.heap.size → w2.heap[b]? = w1.heap[b]? := fun b hb hlt => hg.block b hlt fun e => by have := (HLT.out b e.symm).2; omega
          match i, hU with
          | 2, ⟨a, c, e, hS, ha⟩ => exact ⟨a, c, e, hS.keepAt fun b off e2 hp => hob b (ha b off e2) (by rw [e2] at hS; exact hS.block hp), ha⟩
          | 4, ⟨ds, e, hl⟩ => exact ⟨ds, e, (hl.keepB fun b hb hlt => hob b hb hlt).weaken fun b hb => hb.1⟩
          | 5, ⟨q, e, h1, h2, hl⟩ => exact ⟨q, e, h1, h2, (hl.keep fun b hb hlt => hob b hb hlt).weaken fun b hb => hb.1⟩
          | 6, ⟨g, q, e, hc, h1, h2, hl, h3, h4⟩ => exact ⟨g, q, e, fun j' u hu => (World.cell?_of_block (a := ⟨g, j', none⟩) (hob g h3 h4)).trans (hc j' u hu), h1, h2, (hl.keep fun b hb hlt => hob b hb hlt).weaken fun b hb => hb.1, h3, Nat.lt_of_lt_of_le h4 hg.size⟩
          | 7, _ => exact absurd rfl hip
          | 0, h | 1, h | 3, h => exact h
          | (n + 8), _ => trivial
        case g6 =>
          intro i x w1 w2 hb hU
          match i, hU with
          | 2, ⟨a, c, e, hS, ha⟩ => exact ⟨a, c, e, hS.later hb, ha⟩
          | 4, ⟨ds, e, hl⟩ => exact ⟨ds, e, hl.later hb⟩
          | 5, ⟨q, e, h1, h2, hl⟩ => exact ⟨q, e, h1, h2, hl.later hb⟩
          | 6, ⟨g, q, e, hc, h1, h2, hl, h3, h4⟩ => exact ⟨g, q, e, fun j' u hu => (hb.cell (p := ⟨g, j', none⟩) h4).trans (hc j' u hu), h1, h2, hl.later hb, h3, Nat.lt_of_lt_of_le h4 hb.size⟩
          | 7, ⟨a7, e7, q, e, ho, hk, h1, h2, hl⟩ => exact ⟨a7, e7, q, e, own_sameH ho fun g hg => hb.block g (ho.lt g hg).2, hk, h1, h2, (hl.later hb).weaken fun b hb' => ⟨hb'.1, Nat.lt_of_lt_of_le hb'.2.1 hb.size, hb'.2.2⟩⟩
          | 0, h | 1, h | 3, h => exact h
          | (n + 8), _ => trivial
        case g7 =>
          intro i o ac wb K' ho hi hip hA hB hdep hK
          obtain ⟨hB1, hB2, hB3⟩ := hB
          have s1 : ac.tmps[1]?.getD undef = .slice sa0 ks.length sc0 := hA.sl (t := 1) (by decide)
          have s2 : ac.tmps[2]?.getD undef = .pointer (some ⟨B, 0, none⟩) := hA.sl (t := 2) (by decide)
          have s4 : ac.tmps[4]?.getD undef = .pointer (some ⟨w.heap.size, 0, none⟩) := hA.sl (t := 4) (by decide)
          have n1 := hB3 w.heap.size (by omega) (fun e => by have := HLV.out _ e; omega)
          have n2 := hB3 B (by omega) (fun e => by have := HLV.out _ e; omega)
          have kB : wb.cell? ⟨B, 0, none⟩ = some (.slice la0 n lc0) := (World.cell?_of_block (a := ⟨B, 0, none⟩) n2).trans HST.out.cell
          have x0 := (World.cell?_of_block (a := ⟨w.heap.size, 0, none⟩) n1).trans x0
          have x1 := (World.cell?_of_block (a := ⟨w.heap.size, 1, none⟩) n1).trans x1
          have x2 := (World.cell?_of_block (a := ⟨w.heap.size, 2, none⟩) n1).trans x2
          have x3 := (World.cell?_of_block (a := ⟨w.heap.size, 3, none⟩) n1).trans x3
          have x4 := (World.cell?_of_block (a := ⟨w.heap.size, 4, none⟩) n1).trans x4
          have x5 := (World.cell?_of_block (a := ⟨w.heap.size, 5, none⟩) n1).trans x5
          have SS : Hid (SliceS wb ks sa0 sc0) := HSSH.out.keepAt fun b off e hp => hB3 b (by have h9 := HSSH.out; rw [e] at h9; exact h9.block hp) fun e2 => HST.out.apart b e2 (HSB.out b off e)
          clear n1 n2 hA
          rcases (by omega : i = 0 ∨ i = 1 ∨ i = 2 ∨ i = 3 ∨ i = 4 ∨ i = 5 ∨ i = 6) with rfl | rfl | rfl | rfl | rfl | rfl | rfl
          · simp at ho
            subst ho
            clear hdep hB3
            go_simp
            exact hK _ wb (Below.refl _ _) rfl
          · simp at ho
            subst ho
            clear hdep hB3
            go_simp
            exact hK _ wb (Below.refl _ _) rfl
          · simp at ho
            subst ho
            have y0 : ac.tmps[18]?.getD undef = .slice sa0 ks.length sc0 := hdep { on := 1, ground := .data } (by simp) rfl
            clear hdep hB3
            go_simp
            refine (sCloneS_any SS.out wb (Below.refl _ _)).mono ?_
            rintro e w5 ⟨a, c, rfl, hS, ha, hb⟩
            exact hK _ w5 hb ⟨a, c, rfl, hS, fun b off e => Nat.le_trans hB1 (ha b off e)⟩
          · simp at ho
            subst ho
            clear hdep hB3
            go_simp
            exact hK _ wb (Below.refl _ _) rfl
          · simp at ho
            subst ho
            have y0 : ac.tmps[20]?.getD undef = .agg #[.int .i64 k, .bool b, .int .i64 n0, .string s, .slice la l.length lc, .slice ma m.length mc] := hdep { on := 3, ground := .data } (by simp) rfl
            clear hdep hB3
            go_simp
            refine (tClone_any HTT.out wb (HWV.out.trans (hB2.mono hwB))).mono ?_
            rintro e w5 ⟨ds, rfl, hL, hb⟩
            exact hK _ w5 hb ⟨ds, rfl, hL.weaken fun b h => Nat.le_trans hB1 h⟩
          · simp at ho
            subst ho
            obtain ⟨a, c, y0, hS, ha⟩ := hdep { on := 2, ground := .data } (by simp) rfl
            obtain ⟨ds, y1, hL⟩ := hdep { on := 4, ground := .data } (by simp) rfl
            obtain ⟨d0, d1, d2, d3, d4, d4l, d4c, d5, d5l, d5c, rfl⟩ := hL.six
            have y0 : ac.tmps[19]?.getD undef = .slice a ks.length c := y0
            have y1 : ac.tmps[21]?.getD undef = .agg #[.int .i64 d0, .bool d1, .int .i64 d2, .string d3, .slice d4 d4l d4c, .slice d5 d5l d5c] := y1
            clear hdep hB3
            go_simp
            exact hK _ wb (Below.refl _ _) ⟨⟨ks, TT, a, c, #[.int .i64 d0, .bool d1, .int .i64 d2, .string d3, .slice d4 d4l d4c, .slice d5 d5l d5c]⟩, rfl, rfl, rfl, ⟨hL, hS, fun b off e _ => ha b off e⟩⟩
          · simp at ho
            subst ho
            obtain ⟨q, y0, h1, h2, hL⟩ := hdep { on := 5, ground := .data } (by simp) rfl
            obtain ⟨qp, qv, qa, qc, qd⟩ := q
            obtain ⟨d0, d1, d2, d3, d4, d4l, d4c, d5, d5l, d5c, e9⟩ := hL.val.six
            have e9 : qd = #[.int .i64 d0, .bool d1, .int .i64 d2, .string d3, .slice d4 d4l d4c, .slice d5 d5l d5c] := e9
            subst e9
            have y0 : ac.tmps[22]?.getD undef = .agg #[.slice qa qp.length qc, .int .i64 d0, .bool d1, .int .i64 d2, .string d3, .slice d4 d4l d4c, .slice d5 d5l d5c] := y0
            clear hdep hB3
            go_simp
            exact hK _ _ ((Below.refl _ _).alloc (Nat.le_refl _) _) ⟨wb.heap.size, ⟨qp, qv, qa, qc, #[.int .i64 d0, .bool d1, .int .i64 d2, .string d3, .slice d4 d4l d4c, .slice d5 d5l d5c]⟩, rfl, (fun j' u hu => by have := lit_cells wb #[.slice qa qp.length qc, .int .i64 d0, .bool d1, .int .i64 d2, .string d3, .slice d4 d4l d4c, .slice d5 d5l d5c] 35 j' u hu; rwa [Addr.add_lit, Nat.zero_add] at this), h1, h2, hL.later ((Below.refl _ _).alloc (Nat.le_refl _) _), hB1, by simp⟩
        case g8 =>
          intro o ac wb K' ho hA hB hG hdep hK
          obtain ⟨hB1, hB2, hB3⟩ := hB
          simp at ho
          subst ho
          have y0 : ac.tmps[17]?.getD undef = .slice la0 n lc0 := hdep { on := 0, ground := .data } (by simp) rfl
          obtain ⟨g, q, y1, hgc, hp1, hp2, hL, hg1, hg2⟩ := hdep { on := 6, ground := .data } (by simp) rfl
          obtain ⟨qp, qv, qa, qc, qd⟩ := q
          obtain ⟨d0, d1, d2, d3, d4, d4l, d4c, d5, d5l, d5c, e9⟩ := hL.val.six
          have e9 : qd = #[.int .i64 d0, .bool d1, .int .i64 d2, .string d3, .slice d4 d4l d4c, .slice d5 d5l d5c] := e9
          subst e9
          have y1 : ac.tmps[23]?.getD undef = .slice (some ⟨g, 0, none⟩) 1 1 := y1
          refine wp_append_own rfl (.tmp 17) (.tmp 23) 28 rfl (B + 2) 35 i0 _ 7 112 Try.underlying28 HI0.out HZ0.out HZ1.out HZ2.out (by rfl) (by decide) (.slice la0 n lc0) n _ (by first | exact y0 | (simp [Act.eval]; exact y0) | (go_simp)) hG ⟨g, 0, none⟩ 1 1 (#[Value.slice qa qp.length qc, .int .i64 d0, .bool d1, .int .i64 d2, .string d3, .slice d4 d4l d4c, .slice d5 d5l d5c] : Array Value).toList (by first | exact y1 | (simp [Act.eval]; exact y1) | (go_simp)) rfl (fun j' u hu => by rw [Addr.add_lit, Nat.zero_add]; exact hgc j' u hu) (fun u hu => by
            simp at hu
            rcases hu with rfl | rfl | rfl | rfl | rfl | rfl | rfl <;> rfl) (by unfold maxLen; omega) (by omega) (by omega) ?_
          intro v5 w5 own5 hg5 hob5
          obtain ⟨a5, e5, rfl⟩ := row_form own5
          have hblk : (Value.slice a5 (n + 1) e5).ownBlock = (Value.slice la0 n lc0).ownBlock ∨ ∃ g, (Value.slice a5 (n + 1) e5).ownBlock = some g ∧ v.heap.size ≤ g := hob5.imp id fun e => ⟨wb.heap.size, e, hB1⟩
          refine hK _ w5 ⟨hg5, hB1⟩ ⟨a5, e5, ⟨qp, qv, qa, qc, #[.int .i64 d0, .bool d1, .int .i64 d2, .string d3, .slice d4 d4l d4c, .slice d5 d5l d5c]⟩, rfl, own5, hblk, hp1, hp2, (hL.keep fun b hb hlt => hg5.block b hlt fun e => by have := (HLT.out b e.symm).2; omega).weaken fun b hb => ⟨hb.1, Nat.lt_of_lt_of_le hb.2 hg5.size, fun e => ?_⟩⟩
          rcases hob5 with e2 | e2
          · rw [e2] at e; have := (HLT.out b e).2; omega
          · rw [e2] at e; injection e with e; omega
        case g9 =>
          intro o ac wb K' ho hA hB hU hK
          obtain ⟨hB1, hB2, hB3⟩ := hB
          simp at ho
          subst ho
          have s2 : ac.tmps[2]?.getD undef = .pointer (some ⟨B, 0, none⟩) := hA.sl (t := 2) (by decide)
          have n2 := hB3 B (by omega) (fun e => by have := (HLT.out _ e).1; omega)
          have kB : wb.cell? ⟨B, 0, none⟩ = some (.slice la0 n lc0) := (World.cell?_of_block (a := ⟨B, 0, none⟩) n2).trans HST.out.cell
          have kf : wb.frozen? ⟨B, 0, none⟩ = false := (World.frozen?_of_block (a := ⟨B, 0, none⟩) n2).trans HST.out.thaw
          obtain ⟨a7, e7, q, y7, hO, hblk, hp1, hp2, hL⟩ := hU 7 (by omega)
          have y7 : ac.tmps[24]?.getD undef = .slice a7 (n + 1) e7 := y7
          have fin := WOut.leaf HST.out hB2 hB3 hO hblk hL hp1 hp2
          clear hU hA
          go_simp
          exact hK _ ⟨_, _, fin⟩
        case g10 =>
          intro ac wn hA ⟨lv', K, hout⟩
          have HO := Lib.hid hout
          clear hout
          have hs : slots 8 (fun i => 17 + i) = [17, 18, 19, 20, 21, 22, 23, 24] := by rfl
          rw [hs] at hA
          have hac := hA.act (fun t ht => by
            have h8 : t = 17 ∨ t = 18 ∨ t = 19 ∨ t = 20 ∨ t = 21 ∨ t = 22 ∨ t = 23 ∨ t = 24 := by simpa using ht
            rcases h8 with rfl | rfl | rfl | rfl | rfl | rfl | rfl | rfl <;> exact Nat.lt_of_lt_of_le (by decide : _ < 42) (Nat.le_refl 42))
          rw [List.foldl_cons, List.foldl_cons, List.foldl_cons, List.foldl_cons, List.foldl_cons, List.foldl_cons, List.foldl_cons, List.foldl_cons, List.foldl_nil] at hac
          generalize sl ac 17 = x17 at hac
          generalize sl ac 18 = x18 at hac
          generalize sl ac 19 = x19 at hac
          generalize sl ac 20 = x20 at hac
          generalize sl ac 21 = x21 at hac
          generalize sl ac 22 = x22 at hac
          generalize sl ac 23 = x23 at hac
          generalize sl ac 24 = x24 at hac
          clear hA hs
          subst hac
          simp only [Act.put, List.setIfInBounds_toArray, List.set_cons_succ, List.set_cons_zero]
          go_wp2_with fail
          first | (refine bodyPost_end (results_none rfl _ _ _) rfl ?_) | (refine bodyPost_ret (results_none rfl _ _ _) rfl ?_)
          exact ⟨rfl, lv', K, by rw [LVT.out]; exact HO.out.unbox HB1.out (by omega)⟩
      · by_cases h5 : k = 5
        · subst h5
          have f1 : ((5 : Int) != 5) = false := rfl
          have f2 : ((m.length : Int) == 0) = true := by rw [h0]; rfl
          clear h0
          obtain ⟨i0, hi, hz0, hz1, hz2⟩ := info_parts Try.infoLeaf
          have HI0 := Lib.hid hi
          have HZ0 := Lib.hid hz0
          have HZ1 := Lib.hid hz1
          have HZ2 := Lib.hid hz2
          clear hi hz0 hz1 hz2
          go_upto_region 2 with fail
          have hq : ∃ v0, v0 = v := ⟨v, rfl⟩
          clear hq
          have hvB : B + 2 ≤ v.heap.size := HST.out.sizeB
          obtain ⟨a0', c0', e0', HSS, hsb⟩ := own_texts HST.out.steps (by omega) HST.out.sizes
          obtain ⟨rfl, rfl⟩ : sa0 = a0' ∧ sc0 = c0' := by simpa using e0'
          clear e0'
          have HSSH := Lib.hid HSS
          have HSB := Lib.hid hsb
          clear HSS hsb
          have hlt : ∀ g, (Value.slice la0 n lc0).ownBlock = some g → B + 2 ≤ g ∧ g < v.heap.size := fun g hg => by have := HLV.out g hg; omega
          have HLT := Lib.hid hlt
          clear hlt
          refine wp_region_grows (fun wx => v.heap.size ≤ wx.heap.size ∧ Below B v wx ∧ ∀ b, b < v.heap.size → (Value.slice la0 n lc0).ownBlock ≠ some b → wx.heap[b]? = v.heap[b]?) (fun wx => wx.ownsRow (B + 2) 35 7 (Value.slice la0 n lc0) n xs) (fun w1 w2 => w1.grownBy w2 (Value.slice la0 n lc0).ownBlock ∧ v.heap.size ≤ w1.heap.size) 7 8 (fun i => 17 + i) (fun i x wx => match i with
              | 0 => x = .slice la0 n lc0 | 1 => x = .slice sa0 ks.length sc0
              | 2 => ∃ a c, x = .slice a ks.length c ∧ SliceS wx ks a c ∧ ∀ b off, a = some ⟨b, off, none⟩ → v.heap.size ≤ b
              | 3 => x = .agg #[.int .i64 5, .bool b, .int .i64 n0, .string s, .slice la l.length lc, .slice ma m.length mc]
              | 4 => ∃ ds : Array Value, x = .agg ds ∧ Lies wx (fun b => v.heap.size ≤ b) TT ds
              | 5 => ∃ q : LQ, x = .agg q.row ∧ q.path = ks ∧ q.val = TT ∧ LeafIn wx (fun b => v.heap.size ≤ b) q
              | 6 => ∃ (g : Nat) (q : LQ), x = .slice (some ⟨g, 0, none⟩) 1 1 ∧ (∀ j' u, q.row.toList[j']? = some u → wx.cell? ⟨g, j', none⟩ = some u) ∧ q.path = ks ∧ q.val = TT ∧ LeafIn wx (fun b => v.heap.size ≤ b) q ∧ v.heap.size ≤ g ∧ g < wx.heap.size
              | 7 => ∃ (a7 : Option Addr) (e7 : Nat) (q : LQ), x = .slice a7 (n + 1) e7 ∧ wx.ownsRow (B + 2) 35 7 (.slice a7 (n + 1) e7) (n + 1) (xs ++ q.row.toList) ∧ ((Value.slice a7 (n + 1) e7).ownBlock = (Value.slice la0 n lc0).ownBlock ∨ ∃ g, (Value.slice a7 (n + 1) e7).ownBlock = some g ∧ v.heap.size ≤ g) ∧ q.path = ks ∧ q.val = TT ∧ LeafIn wx (fun b => v.heap.size ≤ b ∧ b < wx.heap.size ∧ (Value.slice a7 (n + 1) e7).ownBlock ≠ some b) q
              | _ => True) (fun _ wx => ∃ lv' K, WOut B v (Value.slice la0 n lc0) (Value.slice sa0 ks.length sc0) n xs ks [([], TT)] wx lv' K) (by kernel_rfl) (by kernel_rfl) ?g1 (by decide) ⟨Nat.le_refl _, (Below.refl _ _).drew, fun _ _ _ => rfl⟩ HST.out.own.drew ?g2 ?g3 ?g4 ?g5 ?g6 ?g7 ?g8 ?g9 ?g10
          case g1 => intro i hi; exact Nat.lt_of_lt_of_le (show 17 + i < 42 by omega) (Nat.le_refl 42)
          case g2 => exact fun w1 w2 hb ⟨h1, h2, h3⟩ => ⟨Nat.le_trans h1 hb.size, bstep h2 hb (by omega), fun b hb2 hn => (hb.block b (by omega)).trans (h3 b hb2 hn)⟩
          case g3 => exact fun w1 w2 ⟨hg, hsz2⟩ ⟨h1, h2, h3⟩ => ⟨Nat.le_trans h1 hg.size, h2.grown hg (by omega) (fun g hg2 => by have := (HLT.out g hg2).1; omega), fun b hb2 hn => (hg.block b (by omega) (fun e => hn e.symm)).trans (h3 b hb2 hn)⟩
          case g4 => exact fun w1 w2 hb h => own_sameH h fun g hg => hb.block g (h.lt g hg).2
          case g5 =>
            intro i x w1 w2 hip hR hU
            obtain ⟨hg, hsz2⟩ := hR
            have hob : ∀ b, v.heap.size ≤ b → b < w1.heap.size → w2.heap[b]? = w1.heap[b]? := fun b hb hlt => hg.block b hlt fun e => by have := (HLT.out b e.symm).2; omega
            match i, hU with
            | 2, ⟨a, c, e, hS, ha⟩ => exact ⟨a, c, e, hS.keepAt fun b off e2 hp => hob b (ha b off e2) (by rw [e2] at hS; exact hS.block hp), ha⟩
            | 4, ⟨ds, e, hl⟩ => exact ⟨ds, e, (hl.keepB fun b hb hlt => hob b hb hlt).weaken fun b hb => hb.1⟩
            | 5, ⟨q, e, h1, h2, hl⟩ => exact ⟨q, e, h1, h2, (hl.keep fun b hb hlt => hob b hb hlt).weaken fun b hb => hb.1⟩
            | 6, ⟨g, q, e, hc, h1, h2, hl, h3, h4⟩ => exact ⟨g, q, e, fun j' u hu => (World.cell?_of_block (a := ⟨g, j', none⟩) (hob g h3 h4)).trans (hc j' u hu), h1, h2, (hl.keep fun b hb hlt => hob b hb hlt).weaken fun b hb => hb.1, h3, Nat.lt_of_lt_of_le h4 hg.size⟩
            | 7, _ => exact absurd rfl hip
            | 0, h | 1, h | 3, h => exact h
            | (n + 8), _ => trivial
          case g6 =>
            intro i x w1 w2 hb hU
            match i, hU with
            | 2, ⟨a, c, e, hS, ha⟩ => exact ⟨a, c, e, hS.later hb, ha⟩
            | 4, ⟨ds, e, hl⟩ => exact ⟨ds, e, hl.later hb⟩
            | 5, ⟨q, e, h1, h2, hl⟩ => exact ⟨q, e, h1, h2, hl.later hb⟩
            | 6, ⟨g, q, e, hc, h1, h2, hl, h3, h4⟩ => exact ⟨g, q, e, fun j' u hu => (hb.cell (p := ⟨g, j', none⟩) h4).trans (hc j' u hu), h1, h2, hl.later hb, h3, Nat.lt_of_lt_of_le h4 hb.size⟩
            | 7, ⟨a7, e7, q, e, ho, hk, h1, h2, hl⟩ => exact ⟨a7, e7, q, e, own_sameH ho fun g hg => hb.block g (ho.lt g hg).2, hk, h1, h2, (hl.later hb).weaken fun b hb' => ⟨hb'.1, Nat.lt_of_lt_of_le hb'.2.1 hb.size, hb'.2.2⟩⟩
            | 0, h | 1, h | 3, h => exact h
            | (n + 8), _ => trivial
          case g7 =>
            intro i o ac wb K' ho hi hip hA hB hdep hK
            obtain ⟨hB1, hB2, hB3⟩ := hB
            have s1 : ac.tmps[1]?.getD undef = .slice sa0 ks.length sc0 := hA.sl (t := 1) (by decide)
            have s2 : ac.tmps[2]?.getD undef = .pointer (some ⟨B, 0, none⟩) := hA.sl (t := 2) (by decide)
            have s4 : ac.tmps[4]?.getD undef = .pointer (some ⟨w.heap.size, 0, none⟩) := hA.sl (t := 4) (by decide)
            have n1 := hB3 w.heap.size (by omega) (fun e => by have := HLV.out _ e; omega)
            have n2 := hB3 B (by omega) (fun e => by have := HLV.out _ e; omega)
            have kB : wb.cell? ⟨B, 0, none⟩ = some (.slice la0 n lc0) := (World.cell?_of_block (a := ⟨B, 0, none⟩) n2).trans HST.out.cell
            have x0 := (World.cell?_of_block (a := ⟨w.heap.size, 0, none⟩) n1).trans x0
            have x1 := (World.cell?_of_block (a := ⟨w.heap.size, 1, none⟩) n1).trans x1
            have x2 := (World.cell?_of_block (a := ⟨w.heap.size, 2, none⟩) n1).trans x2
            have x3 := (World.cell?_of_block (a := ⟨w.heap.size, 3, none⟩) n1).trans x3
            have x4 := (World.cell?_of_block (a := ⟨w.heap.size, 4, none⟩) n1).trans x4
            have x5 := (World.cell?_of_block (a := ⟨w.heap.size, 5, none⟩) n1).trans x5
            have SS : Hid (SliceS wb ks sa0 sc0) := HSSH.out.keepAt fun b off e hp => hB3 b (by have h9 := HSSH.out; rw [e] at h9; exact h9.block hp) fun e2 => HST.out.apart b e2 (HSB.out b off e)
            clear n1 n2 hA
            rcases (by omega : i = 0 ∨ i = 1 ∨ i = 2 ∨ i = 3 ∨ i = 4 ∨ i = 5 ∨ i = 6) with rfl | rfl | rfl | rfl | rfl | rfl | rfl
            · simp at ho
              subst ho
              clear hdep hB3
              go_simp
              exact hK _ wb (Below.refl _ _) rfl
            · simp at ho
              subst ho
              clear hdep hB3
              go_simp
              exact hK _ wb (Below.refl _ _) rfl
            · simp at ho
              subst ho
              have y0 : ac.tmps[18]?.getD undef = .slice sa0 ks.length sc0 := hdep { on := 1, ground := .data } (by simp) rfl
              clear hdep hB3
              go_simp
              refine (sCloneS_any SS.out wb (Below.refl _ _)).mono ?_
              rintro e w5 ⟨a, c, rfl, hS, ha, hb⟩
              exact hK _ w5 hb ⟨a, c, rfl, hS, fun b off e => Nat.le_trans hB1 (ha b off e)⟩
            · simp at ho
              subst ho
              clear hdep hB3
              go_simp
              exact hK _ wb (Below.refl _ _) rfl
            · simp at ho
              subst ho
              have y0 : ac.tmps[20]?.getD undef = .agg #[.int .i64 5, .bool b, .int .i64 n0, .string s, .slice la l.length lc, .slice ma m.length mc] := hdep { on := 3, ground := .data } (by simp) rfl
              clear hdep hB3
              go_simp
              refine (tClone_any HTT.out wb (HWV.out.trans (hB2.mono hwB))).mono ?_
              rintro e w5 ⟨ds, rfl, hL, hb⟩
              exact hK _ w5 hb ⟨ds, rfl, hL.weaken fun b h => Nat.le_trans hB1 h⟩
            · simp at ho
              subst ho
              obtain ⟨a, c, y0, hS, ha⟩ := hdep { on := 2, ground := .data } (by simp) rfl
              obtain ⟨ds, y1, hL⟩ := hdep { on := 4, ground := .data } (by simp) rfl
              obtain ⟨d0, d1, d2, d3, d4, d4l, d4c, d5, d5l, d5c, rfl⟩ := hL.six
              have y0 : ac.tmps[19]?.getD undef = .slice a ks.length c := y0
              have y1 : ac.tmps[21]?.getD undef = .agg #[.int .i64 d0, .bool d1, .int .i64 d2, .string d3, .slice d4 d4l d4c, .slice d5 d5l d5c] := y1
              clear hdep hB3
              go_simp
              exact hK _ wb (Below.refl _ _) ⟨⟨ks, TT, a, c, #[.int .i64 d0, .bool d1, .int .i64 d2, .string d3, .slice d4 d4l d4c, .slice d5 d5l d5c]⟩, rfl, rfl, rfl, ⟨hL, hS, fun b off e _ => ha b off e⟩⟩
            · simp at ho
              subst ho
              obtain ⟨q, y0, h1, h2, hL⟩ := hdep { on := 5, ground := .data } (by simp) rfl
              obtain ⟨qp, qv, qa, qc, qd⟩ := q
              obtain ⟨d0, d1, d2, d3, d4, d4l, d4c, d5, d5l, d5c, e9⟩ := hL.val.six
              have e9 : qd = #[.int .i64 d0, .bool d1, .int .i64 d2, .string d3, .slice d4 d4l d4c, .slice d5 d5l d5c] := e9
              subst e9
              have y0 : ac.tmps[22]?.getD undef = .agg #[.slice qa qp.length qc, .int .i64 d0, .bool d1, .int .i64 d2, .string d3, .slice d4 d4l d4c, .slice d5 d5l d5c] := y0
              clear hdep hB3
              go_simp
              exact hK _ _ ((Below.refl _ _).alloc (Nat.le_refl _) _) ⟨wb.heap.size, ⟨qp, qv, qa, qc, #[.int .i64 d0, .bool d1, .int .i64 d2, .string d3, .slice d4 d4l d4c, .slice d5 d5l d5c]⟩, rfl, (fun j' u hu => by have := lit_cells wb #[.slice qa qp.length qc, .int .i64 d0, .bool d1, .int .i64 d2, .string d3, .slice d4 d4l d4c, .slice d5 d5l d5c] 35 j' u hu; rwa [Addr.add_lit, Nat.zero_add] at this), h1, h2, hL.later ((Below.refl _ _).alloc (Nat.le_refl _) _), hB1, by simp⟩
          case g8 =>
            intro o ac wb K' ho hA hB hG hdep hK
            obtain ⟨hB1, hB2, hB3⟩ := hB
            simp at ho
            subst ho
            have y0 : ac.tmps[17]?.getD undef = .slice la0 n lc0 := hdep { on := 0, ground := .data } (by simp) rfl
            obtain ⟨g, q, y1, hgc, hp1, hp2, hL, hg1, hg2⟩ := hdep { on := 6, ground := .data } (by simp) rfl
            obtain ⟨qp, qv, qa, qc, qd⟩ := q
            obtain ⟨d0, d1, d2, d3, d4, d4l, d4c, d5, d5l, d5c, e9⟩ := hL.val.six
            have e9 : qd = #[.int .i64 d0, .bool d1, .int .i64 d2, .string d3, .slice d4 d4l d4c, .slice d5 d5l d5c] := e9
            subst e9
            have y1 : ac.tmps[23]?.getD undef = .slice (some ⟨g, 0, none⟩) 1 1 := y1
            refine wp_append_own rfl (.tmp 17) (.tmp 23) 28 rfl (B + 2) 35 i0 _ 7 112 Try.underlying28 HI0.out HZ0.out HZ1.out HZ2.out (by rfl) (by decide) (.slice la0 n lc0) n _ (by first | exact y0 | (simp [Act.eval]; exact y0) | (go_simp)) hG ⟨g, 0, none⟩ 1 1 (#[Value.slice qa qp.length qc, .int .i64 d0, .bool d1, .int .i64 d2, .string d3, .slice d4 d4l d4c, .slice d5 d5l d5c] : Array Value).toList (by first | exact y1 | (simp [Act.eval]; exact y1) | (go_simp)) rfl (fun j' u hu => by rw [Addr.add_lit, Nat.zero_add]; exact hgc j' u hu) (fun u hu => by
              simp at hu
              rcases hu with rfl | rfl | rfl | rfl | rfl | rfl | rfl <;> rfl) (by unfold maxLen; omega) (by omega) (by omega) ?_
            intro v5 w5 own5 hg5 hob5
            obtain ⟨a5, e5, rfl⟩ := row_form own5
            have hblk : (Value.slice a5 (n + 1) e5).ownBlock = (Value.slice la0 n lc0).ownBlock ∨ ∃ g, (Value.slice a5 (n + 1) e5).ownBlock = some g ∧ v.heap.size ≤ g := hob5.imp id fun e => ⟨wb.heap.size, e, hB1⟩
            refine hK _ w5 ⟨hg5, hB1⟩ ⟨a5, e5, ⟨qp, qv, qa, qc, #[.int .i64 d0, .bool d1, .int .i64 d2, .string d3, .slice d4 d4l d4c, .slice d5 d5l d5c]⟩, rfl, own5, hblk, hp1, hp2, (hL.keep fun b hb hlt => hg5.block b hlt fun e => by have := (HLT.out b e.symm).2; omega).weaken fun b hb => ⟨hb.1, Nat.lt_of_lt_of_le hb.2 hg5.size, fun e => ?_⟩⟩
            rcases hob5 with e2 | e2
            · rw [e2] at e; have := (HLT.out b e).2; omega
            · rw [e2] at e; injection e with e; omega
          case g9 =>
            intro o ac wb K' ho hA hB hU hK
            obtain ⟨hB1, hB2, hB3⟩ := hB
            simp at ho
            subst ho
            have s2 : ac.tmps[2]?.getD undef = .pointer (some ⟨B, 0, none⟩) := hA.sl (t := 2) (by decide)
            have n2 := hB3 B (by omega) (fun e => by have := (HLT.out _ e).1; omega)
            have kB : wb.cell? ⟨B, 0, none⟩ = some (.slice la0 n lc0) := (World.cell?_of_block (a := ⟨B, 0, none⟩) n2).trans HST.out.cell
            have kf : wb.frozen? ⟨B, 0, none⟩ = false := (World.frozen?_of_block (a := ⟨B, 0, none⟩) n2).trans HST.out.thaw
            obtain ⟨a7, e7, q, y7, hO, hblk, hp1, hp2, hL⟩ := hU 7 (by omega)
            have y7 : ac.tmps[24]?.getD undef = .slice a7 (n + 1) e7 := y7
            have fin := WOut.leaf HST.out hB2 hB3 hO hblk hL hp1 hp2
            clear hU hA
            go_simp
            exact hK _ ⟨_, _, fin⟩
          case g10 =>
            intro ac wn hA ⟨lv', K, hout⟩
            have HO := Lib.hid hout
            clear hout
            have hs : slots 8 (fun i => 17 + i) = [17, 18, 19, 20, 21, 22, 23, 24] := by rfl
            rw [hs] at hA
            have hac := hA.act (fun t ht => by
              have h8 : t = 17 ∨ t = 18 ∨ t = 19 ∨ t = 20 ∨ t = 21 ∨ t = 22 ∨ t = 23 ∨ t = 24 := by simpa using ht
              rcases h8 with rfl | rfl | rfl | rfl | rfl | rfl | rfl | rfl <;> exact Nat.lt_of_lt_of_le (by decide : _ < 42) (Nat.le_refl 42))
            rw [List.foldl_cons, List.foldl_cons, List.foldl_cons, List.foldl_cons, List.foldl_cons, List.foldl_cons, List.foldl_cons, List.foldl_cons, List.foldl_nil] at hac
            generalize sl ac 17 = x17 at hac
            generalize sl ac 18 = x18 at hac
            generalize sl ac 19 = x19 at hac
            generalize sl ac 20 = x20 at hac
            generalize sl ac 21 = x21 at hac
            generalize sl ac 22 = x22 at hac
            generalize sl ac 23 = x23 at hac
            generalize sl ac 24 = x24 at hac
            clear hA hs
            subst hac
            simp only [Act.put, List.setIfInBounds_toArray, List.set_cons_succ, List.set_cons_zero]
            go_wp2_with fail
            first | (refine bodyPost_end (results_none rfl _ _ _) rfl ?_) | (refine bodyPost_ret (results_none rfl _ _ _) rfl ?_)
            exact ⟨rfl, lv', K, by rw [LVT.out]; exact HO.out.unbox HB1.out (by omega)⟩
        · have f1 : (k != 5) = true := by simp [h5]
          clear h5 h0
          obtain ⟨i0, hi, hz0, hz1, hz2⟩ := info_parts Try.infoLeaf
          have HI0 := Lib.hid hi
          have HZ0 := Lib.hid hz0
          have HZ1 := Lib.hid hz1
          have HZ2 := Lib.hid hz2
          clear hi hz0 hz1 hz2
          go_upto_region 2 with fail
          have hq : ∃ v0, v0 = v := ⟨v, rfl⟩
          clear hq
          have hvB : B + 2 ≤ v.heap.size := HST.out.sizeB
          obtain ⟨a0', c0', e0', HSS, hsb⟩ := own_texts HST.out.steps (by omega) HST.out.sizes
          obtain ⟨rfl, rfl⟩ : sa0 = a0' ∧ sc0 = c0' := by simpa using e0'
          clear e0'
          have HSSH := Lib.hid HSS
          have HSB := Lib.hid hsb
          clear HSS hsb
          have hlt : ∀ g, (Value.slice la0 n lc0).ownBlock = some g → B + 2 ≤ g ∧ g < v.heap.size := fun g hg => by have := HLV.out g hg; omega
          have HLT := Lib.hid hlt
          clear hlt
          refine wp_region_grows (fun wx => v.heap.size ≤ wx.heap.size ∧ Below B v wx ∧ ∀ b, b < v.heap.size → (Value.slice la0 n lc0).ownBlock ≠ some b → wx.heap[b]? = v.heap[b]?) (fun wx => wx.ownsRow (B + 2) 35 7 (Value.slice la0 n lc0) n xs) (fun w1 w2 => w1.grownBy w2 (Value.slice la0 n lc0).ownBlock ∧ v.heap.size ≤ w1.heap.size) 7 8 (fun i => 17 + i) (fun i x wx => match i with
              | 0 => x = .slice la0 n lc0 | 1 => x = .slice sa0 ks.length sc0
              | 2 => ∃ a c, x = .slice a ks.length c ∧ SliceS wx ks a c ∧ ∀ b off, a = some ⟨b, off, none⟩ → v.heap.size ≤ b
              | 3 => x = .agg #[.int .i64 k, .bool b, .int .i64 n0, .string s, .slice la l.length lc, .slice ma m.length mc]
              | 4 => ∃ ds : Array Value, x = .agg ds ∧ Lies wx (fun b => v.heap.size ≤ b) TT ds
              | 5 => ∃ q : LQ, x = .agg q.row ∧ q.path = ks ∧ q.val = TT ∧ LeafIn wx (fun b => v.heap.size ≤ b) q
              | 6 => ∃ (g : Nat) (q : LQ), x = .slice (some ⟨g, 0, none⟩) 1 1 ∧ (∀ j' u, q.row.toList[j']? = some u → wx.cell? ⟨g, j', none⟩ = some u) ∧ q.path = ks ∧ q.val = TT ∧ LeafIn wx (fun b => v.heap.size ≤ b) q ∧ v.heap.size ≤ g ∧ g < wx.heap.size
              | 7 => ∃ (a7 : Option Addr) (e7 : Nat) (q : LQ), x = .slice a7 (n + 1) e7 ∧ wx.ownsRow (B + 2) 35 7 (.slice a7 (n + 1) e7) (n + 1) (xs ++ q.row.toList) ∧ ((Value.slice a7 (n + 1) e7).ownBlock = (Value.slice la0 n lc0).ownBlock ∨ ∃ g, (Value.slice a7 (n + 1) e7).ownBlock = some g ∧ v.heap.size ≤ g) ∧ q.path = ks ∧ q.val = TT ∧ LeafIn wx (fun b => v.heap.size ≤ b ∧ b < wx.heap.size ∧ (Value.slice a7 (n + 1) e7).ownBlock ≠ some b) q
              | _ => True) (fun _ wx => ∃ lv' K, WOut B v (Value.slice la0 n lc0) (Value.slice sa0 ks.length sc0) n xs ks [([], TT)] wx lv' K) (by kernel_rfl) (by kernel_rfl) ?g1 (by decide) ⟨Nat.le_refl _, (Below.refl _ _).drew, fun _ _ _ => rfl⟩ HST.out.own.drew ?g2 ?g3 ?g4 ?g5 ?g6 ?g7 ?g8 ?g9 ?g10
          case g1 => intro i hi; exact Nat.lt_of_lt_of_le (show 17 + i < 42 by omega) (Nat.le_refl 42)
          case g2 => exact fun w1 w2 hb ⟨h1, h2, h3⟩ => ⟨Nat.le_trans h1 hb.size, bstep h2 hb (by omega), fun b hb2 hn => (hb.block b (by omega)).trans (h3 b hb2 hn)⟩
          case g3 => exact fun w1 w2 ⟨hg, hsz2⟩ ⟨h1, h2, h3⟩ => ⟨Nat.le_trans h1 hg.size, h2.grown hg (by omega) (fun g hg2 => by have := (HLT.out g hg2).1; omega), fun b hb2 hn => (hg.block b (by omega) (fun e => hn e.symm)).trans (h3 b hb2 hn)⟩
          case g4 => exact fun w1 w2 hb h => own_sameH h fun g hg => hb.block g (h.lt g hg).2
          case g5 =>
            intro i x w1 w2 hip hR hU
            obtain ⟨hg, hsz2⟩ := hR
            have hob : ∀ b, v.heap.size ≤ b → b < w1.heap.size → w2.heap[b]? = w1.heap[b]? := fun b hb hlt => hg.block b hlt fun e => by have := (HLT.out b e.symm).2; omega
            match i, hU with
            | 2, ⟨a, c, e, hS, ha⟩ => exact ⟨a, c, e, hS.keepAt fun b off e2 hp => hob b (ha b off e2) (by rw [e2] at hS; exact hS.block hp), ha⟩
            | 4, ⟨ds, e, hl⟩ => exact ⟨ds, e, (hl.keepB fun b hb hlt => hob b hb hlt).weaken fun b hb => hb.1⟩
            | 5, ⟨q, e, h1, h2, hl⟩ => exact ⟨q, e, h1, h2, (hl.keep fun b hb hlt => hob b hb hlt).weaken fun b hb => hb.1⟩
            | 6, ⟨g, q, e, hc, h1, h2, hl, h3, h4⟩ => exact ⟨g, q, e, fun j' u hu => (World.cell?_of_block (a := ⟨g, j', none⟩) (hob g h3 h4)).trans (hc j' u hu), h1, h2, (hl.keep fun b hb hlt => hob b hb hlt).weaken fun b hb => hb.1, h3, Nat.lt_of_lt_of_le h4 hg.size⟩
            | 7, _ => exact absurd rfl hip
            | 0, h | 1, h | 3, h => exact h
            | (n + 8), _ => trivial
          case g6 =>
            intro i x w1 w2 hb hU
            match i, hU with
            | 2, ⟨a, c, e, hS, ha⟩ => exact ⟨a, c, e, hS.later hb, ha⟩
            | 4, ⟨ds, e, hl⟩ => exact ⟨ds, e, hl.later hb⟩
            | 5, ⟨q, e, h1, h2, hl⟩ => exact ⟨q, e, h1, h2, hl.later hb⟩
            | 6, ⟨g, q, e, hc, h1, h2, hl, h3, h4⟩ => exact ⟨g, q, e, fun j' u hu => (hb.cell (p := ⟨g, j', none⟩) h4).trans (hc j' u hu), h1, h2, hl.later hb, h3, Nat.lt_of_lt_of_le h4 hb.size⟩
            | 7, ⟨a7, e7, q, e, ho, hk, h1, h2, hl⟩ => exact ⟨a7, e7, q, e, own_sameH ho fun g hg => hb.block g (ho.lt g hg).2, hk, h1, h2, (hl.later hb).weaken fun b hb' => ⟨hb'.1, Nat.lt_of_lt_of_le hb'.2.1 hb.size, hb'.2.2⟩⟩
            | 0, h | 1, h | 3, h => exact h
            | (n + 8), _ => trivial
          case g7 =>
            intro i o ac wb K' ho hi hip hA hB hdep hK
            obtain ⟨hB1, hB2, hB3⟩ := hB
            have s1 : ac.tmps[1]?.getD undef = .slice sa0 ks.length sc0 := hA.sl (t := 1) (by decide)
            have s2 : ac.tmps[2]?.getD undef = .pointer (some ⟨B, 0, none⟩) := hA.sl (t := 2) (by decide)
            have s4 : ac.tmps[4]?.getD undef = .pointer (some ⟨w.heap.size, 0, none⟩) := hA.sl (t := 4) (by decide)
            have n1 := hB3 w.heap.size (by omega) (fun e => by have := HLV.out _ e; omega)
            have n2 := hB3 B (by omega) (fun e => by have := HLV.out _ e; omega)
            have kB : wb.cell? ⟨B, 0, none⟩ = some (.slice la0 n lc0) := (World.cell?_of_block (a := ⟨B, 0, none⟩) n2).trans HST.out.cell
            have x0 := (World.cell?_of_block (a := ⟨w.heap.size, 0, none⟩) n1).trans x0
            have x1 := (World.cell?_of_block (a := ⟨w.heap.size, 1, none⟩) n1).trans x1
            have x2 := (World.cell?_of_block (a := ⟨w.heap.size, 2, none⟩) n1).trans x2
            have x3 := (World.cell?_of_block (a := ⟨w.heap.size, 3, none⟩) n1).trans x3
            have x4 := (World.cell?_of_block (a := ⟨w.heap.size, 4, none⟩) n1).trans x4
            have x5 := (World.cell?_of_block (a := ⟨w.heap.size, 5, none⟩) n1).trans x5
            have SS : Hid (SliceS wb ks sa0 sc0) := HSSH.out.keepAt fun b off e hp => hB3 b (by have h9 := HSSH.out; rw [e] at h9; exact h9.block hp) fun e2 => HST.out.apart b e2 (HSB.out b off e)
            clear n1 n2 hA
            rcases (by omega : i = 0 ∨ i = 1 ∨ i = 2 ∨ i = 3 ∨ i = 4 ∨ i = 5 ∨ i = 6) with rfl | rfl | rfl | rfl | rfl | rfl | rfl
            · simp at ho
              subst ho
              clear hdep hB3
              go_simp
              exact hK _ wb (Below.refl _ _) rfl
            · simp at ho
              subst ho
              clear hdep hB3
              go_simp
              exact hK _ wb (Below.refl _ _) rfl
            · simp at ho
              subst ho
              have y0 : ac.tmps[18]?.getD undef = .slice sa0 ks.length sc0 := hdep { on := 1, ground := .data } (by simp) rfl
              clear hdep hB3
              go_simp
              refine (sCloneS_any SS.out wb (Below.refl _ _)).mono ?_
              rintro e w5 ⟨a, c, rfl, hS, ha, hb⟩
              exact hK _ w5 hb ⟨a, c, rfl, hS, fun b off e => Nat.le_trans hB1 (ha b off e)⟩
            · simp at ho
              subst ho
              clear hdep hB3
              go_simp
              exact hK _ wb (Below.refl _ _) rfl
            · simp at ho
              subst ho
              have y0 : ac.tmps[20]?.getD undef = .agg #[.int .i64 k, .bool b, .int .i64 n0, .string s, .slice la l.length lc, .slice ma m.length mc] := hdep { on := 3, ground := .data } (by simp) rfl
              clear hdep hB3
              go_simp
              refine (tClone_any HTT.out wb (HWV.out.trans (hB2.mono hwB))).mono ?_
              rintro e w5 ⟨ds, rfl, hL, hb⟩
              exact hK _ w5 hb ⟨ds, rfl, hL.weaken fun b h => Nat.le_trans hB1 h⟩
            · simp at ho
              subst ho
              obtain ⟨a, c, y0, hS, ha⟩ := hdep { on := 2, ground := .data } (by simp) rfl
              obtain ⟨ds, y1, hL⟩ := hdep { on := 4, ground := .data } (by simp) rfl
              obtain ⟨d0, d1, d2, d3, d4, d4l, d4c, d5, d5l, d5c, rfl⟩ := hL.six
              have y0 : ac.tmps[19]?.getD undef = .slice a ks.length c := y0
              have y1 : ac.tmps[21]?.getD undef = .agg #[.int .i64 d0, .bool d1, .int .i64 d2, .string d3, .slice d4 d4l d4c, .slice d5 d5l d5c] := y1
              clear hdep hB3
              go_simp
              exact hK _ wb (Below.refl _ _) ⟨⟨ks, TT, a, c, #[.int .i64 d0, .bool d1, .int .i64 d2, .string d3, .slice d4 d4l d4c, .slice d5 d5l d5c]⟩, rfl, rfl, rfl, ⟨hL, hS, fun b off e _ => ha b off e⟩⟩
            · simp at ho
              subst ho
              obtain ⟨q, y0, h1, h2, hL⟩ := hdep { on := 5, ground := .data } (by simp) rfl
              obtain ⟨qp, qv, qa, qc, qd⟩ := q
              obtain ⟨d0, d1, d2, d3, d4, d4l, d4c, d5, d5l, d5c, e9⟩ := hL.val.six
              have e9 : qd = #[.int .i64 d0, .bool d1, .int .i64 d2, .string d3, .slice d4 d4l d4c, .slice d5 d5l d5c] := e9
              subst e9
              have y0 : ac.tmps[22]?.getD undef = .agg #[.slice qa qp.length qc, .int .i64 d0, .bool d1, .int .i64 d2, .string d3, .slice d4 d4l d4c, .slice d5 d5l d5c] := y0
              clear hdep hB3
              go_simp
              exact hK _ _ ((Below.refl _ _).alloc (Nat.le_refl _) _) ⟨wb.heap.size, ⟨qp, qv, qa, qc, #[.int .i64 d0, .bool d1, .int .i64 d2, .string d3, .slice d4 d4l d4c, .slice d5 d5l d5c]⟩, rfl, (fun j' u hu => by have := lit_cells wb #[.slice qa qp.length qc, .int .i64 d0, .bool d1, .int .i64 d2, .string d3, .slice d4 d4l d4c, .slice d5 d5l d5c] 35 j' u hu; rwa [Addr.add_lit, Nat.zero_add] at this), h1, h2, hL.later ((Below.refl _ _).alloc (Nat.le_refl _) _), hB1, by simp⟩
          case g8 =>
            intro o ac wb K' ho hA hB hG hdep hK
            obtain ⟨hB1, hB2, hB3⟩ := hB
            simp at ho
            subst ho
            have y0 : ac.tmps[17]?.getD undef = .slice la0 n lc0 := hdep { on := 0, ground := .data } (by simp) rfl
            obtain ⟨g, q, y1, hgc, hp1, hp2, hL, hg1, hg2⟩ := hdep { on := 6, ground := .data } (by simp) rfl
            obtain ⟨qp, qv, qa, qc, qd⟩ := q
            obtain ⟨d0, d1, d2, d3, d4, d4l, d4c, d5, d5l, d5c, e9⟩ := hL.val.six
            have e9 : qd = #[.int .i64 d0, .bool d1, .int .i64 d2, .string d3, .slice d4 d4l d4c, .slice d5 d5l d5c] := e9
            subst e9
            have y1 : ac.tmps[23]?.getD undef = .slice (some ⟨g, 0, none⟩) 1 1 := y1
            refine wp_append_own rfl (.tmp 17) (.tmp 23) 28 rfl (B + 2) 35 i0 _ 7 112 Try.underlying28 HI0.out HZ0.out HZ1.out HZ2.out (by rfl) (by decide) (.slice la0 n lc0) n _ (by first | exact y0 | (simp [Act.eval]; exact y0) | (go_simp)) hG ⟨g, 0, none⟩ 1 1 (#[Value.slice qa qp.length qc, .int .i64 d0, .bool d1, .int .i64 d2, .string d3, .slice d4 d4l d4c, .slice d5 d5l d5c] : Array Value).toList (by first | exact y1 | (simp [Act.eval]; exact y1) | (go_simp)) rfl (fun j' u hu => by rw [Addr.add_lit, Nat.zero_add]; exact hgc j' u hu) (fun u hu => by
              simp at hu
              rcases hu with rfl | rfl | rfl | rfl | rfl | rfl | rfl <;> rfl) (by unfold maxLen; omega) (by omega) (by omega) ?_
            intro v5 w5 own5 hg5 hob5
            obtain ⟨a5, e5, rfl⟩ := row_form own5
            have hblk : (Value.slice a5 (n + 1) e5).ownBlock = (Value.slice la0 n lc0).ownBlock ∨ ∃ g, (Value.slice a5 (n + 1) e5).ownBlock = some g ∧ v.heap.size ≤ g := hob5.imp id fun e => ⟨wb.heap.size, e, hB1⟩
            refine hK _ w5 ⟨hg5, hB1⟩ ⟨a5, e5, ⟨qp, qv, qa, qc, #[.int .i64 d0, .bool d1, .int .i64 d2, .string d3, .slice d4 d4l d4c, .slice d5 d5l d5c]⟩, rfl, own5, hblk, hp1, hp2, (hL.keep fun b hb hlt => hg5.block b hlt fun e => by have := (HLT.out b e.symm).2; omega).weaken fun b hb => ⟨hb.1, Nat.lt_of_lt_of_le hb.2 hg5.size, fun e => ?_⟩⟩
            rcases hob5 with e2 | e2
            · rw [e2] at e; have := (HLT.out b e).2; omega
            · rw [e2] at e; injection e with e; omega
          case g9 =>
            intro o ac wb K' ho hA hB hU hK
            obtain ⟨hB1, hB2, hB3⟩ := hB
            simp at ho
            subst ho
            have s2 : ac.tmps[2]?.getD undef = .pointer (some ⟨B, 0, none⟩) := hA.sl (t := 2) (by decide)
            have n2 := hB3 B (by omega) (fun e => by have := (HLT.out _ e).1; omega)
            have kB : wb.cell? ⟨B, 0, none⟩ = some (.slice la0 n lc0) := (World.cell?_of_block (a := ⟨B, 0, none⟩) n2).trans HST.out.cell
            have kf : wb.frozen? ⟨B, 0, none⟩ = false := (World.frozen?_of_block (a := ⟨B, 0, none⟩) n2).trans HST.out.thaw
            obtain ⟨a7, e7, q, y7, hO, hblk, hp1, hp2, hL⟩ := hU 7 (by omega)
            have y7 : ac.tmps[24]?.getD undef = .slice a7 (n + 1) e7 := y7
            have fin := WOut.leaf HST.out hB2 hB3 hO hblk hL hp1 hp2
            clear hU hA
            go_simp
            exact hK _ ⟨_, _, fin⟩
          case g10 =>
            intro ac wn hA ⟨lv', K, hout⟩
            have HO := Lib.hid hout
            clear hout
            have hs : slots 8 (fun i => 17 + i) = [17, 18, 19, 20, 21, 22, 23, 24] := by rfl
            rw [hs] at hA
            have hac := hA.act (fun t ht => by
              have h8 : t = 17 ∨ t = 18 ∨ t = 19 ∨ t = 20 ∨ t = 21 ∨ t = 22 ∨ t = 23 ∨ t = 24 := by simpa using ht
              rcases h8 with rfl | rfl | rfl | rfl | rfl | rfl | rfl | rfl <;> exact Nat.lt_of_lt_of_le (by decide : _ < 42) (Nat.le_refl 42))
            rw [List.foldl_cons, List.foldl_cons, List.foldl_cons, List.foldl_cons, List.foldl_cons, List.foldl_cons, List.foldl_cons, List.foldl_cons, List.foldl_nil] at hac
            generalize sl ac 17 = x17 at hac
            generalize sl ac 18 = x18 at hac
            generalize sl ac 19 = x19 at hac
            generalize sl ac 20 = x20 at hac
            generalize sl ac 21 = x21 at hac
            generalize sl ac 22 = x22 at hac
            generalize sl ac 23 = x23 at hac
            generalize sl ac 24 = x24 at hac
            clear hA hs
            subst hac
            simp only [Act.put, List.setIfInBounds_toArray, List.set_cons_succ, List.set_cons_zero]
            go_wp2_with fail
            first | (refine bodyPost_end (results_none rfl _ _ _) rfl ?_) | (refine bodyPost_ret (results_none rfl _ _ _) rfl ?_)
            exact ⟨rfl, lv', K, by rw [LVT.out]; exact HO.out.unbox HB1.out (by omega)⟩
    case neg =>
      obtain rfl : k = 5 := by
        by_cases h : k = 5
        · exact h
        · exact absurd (.inl h) hl0
      have hm0 : m.length ≠ 0 := fun h => hl0 (.inr h)
      have LV : Hid (leavesT (T.mk 5 b n0 s l m) = flatM m) := leaves_flat (fun e => hm0 (by have e : m = [] := e; rw [e]; rfl))
      have f1 : ((5 : Int) != 5) = false := rfl
      have f2 : ((m.length : Int) == 0) = false := by rw [beq_eq_false_iff_ne]; omega
      clear hl0
      obtain ⟨i0, hi, hz0, hz1, hz2⟩ := info_parts Try.infoS
      have HI0 := Lib.hid hi
      have HZ0 := Lib.hid hz0
      have HZ1 := Lib.hid hz1
      have HZ2 := Lib.hid hz2
      clear hi hz0 hz1 hz2
      have hvB : B + 2 ≤ v.heap.size := HST.out.sizeB
      go_wp2_with fail
      go_loopw [28] (fun v28 wr => ∃ (j : Nat) (lvj : Value) (Kj : List LQ), j ≤ m.length ∧ v28 = .int .i64 j ∧ Hid (WOut B v (Value.slice la0 n lc0) (Value.slice sa0 ks.length sc0) n xs ks (flatM (m.take j)) wr lvj Kj)) (fun v28 _ => m.length - (intOf v28).toNat)
      case atStart => exact ⟨0, _, [], by omega, rfl, WOut.start HST.out (Below.refl _ _)⟩
      case round =>
        obtain ⟨j, lvj, Kj, hj, rfl, HO⟩ := hrel
        have hvr := HO.out.below.size
        by_cases hjl : j < m.length
        · have hWw : Below w0.heap.size w0 wr := HWV.out.trans (HO.out.below.mono hwB)
          obtain ⟨bl, ol, c0, c1, c2, c3, c4, c4l, c4c, c5, c5l, c5c, hma, hc, r0, r1, r2, r3, r4, r5, r6⟩ := openM hWw HM.out.hdr HM.out.rows hjl (HM.out.each j hjl)
          subst hma
          have IHj := IH.out j hjl
          rw [hc] at IHj
          have IHJ := Lib.hid IHj
          have hko := HM.out.keys j hjl
          have hpj : m[j].2.parts = 0 := FN.out.part (List.getElem_mem hjl)
          obtain ⟨hz1, hz2⟩ := HS1.out j hjl
          have hKl : Kj.length = (flatM (m.take j)).length := by
            have := congrArg List.length HO.out.what
            rwa [List.length_map, List.length_map] at this
          have TK := Lib.hid (flatM_take m j hjl)
          have HWW := Lib.hid hWw
          have hb1 := (Below.refl wr.heap.size wr).alloc (Nat.le_refl _) (.cells #[.string m[j].1, .int .i64 c0, .bool c1, .int .i64 c2, .string c3, .slice c4 c4l c4c, .slice c5 c5l c5c] 51)
          have es : (wr.alloc (.cells #[.string m[j].1, .int .i64 c0, .bool c1, .int .i64 c2, .string c3, .slice c4 c4l c4c, .slice c5 c5l c5c] 51)).heap.size = wr.heap.size + 1 := by simp
          have pc : ∀ i, (wr.alloc (.cells #[.string m[j].1, .int .i64 c0, .bool c1, .int .i64 c2, .string c3, .slice c4 c4l c4c, .slice c5 c5l c5c] 51)).cell? ⟨wr.heap.size, i, none⟩ = (#[Value.string m[j].1, .int .i64 c0, .bool c1, .int .i64 c2, .string c3, .slice c4 c4l c4c, .slice c5 c5l c5c] : Array Value)[i]? := fun i => World.cell?_alloc_new _ _ _ _
          have HB2 := Lib.hid hb1
          have PC := Lib.hid pc
          have ES := Lib.hid es
          clear hc IHj hWw hb1 es pc
          go_upto_region 6 with fail
          generalize wr.alloc (.cells #[.string m[j].1, .int .i64 c0, .bool c1, .int .i64 c2, .string c3, .slice c4 c4l c4c, .slice c5 c5l c5c] 51) = w1 at *
          have hw1 : w1.heap.size = wr.heap.size + 1 := ES.out
          clear ES
          have p0 : w1.cell? ⟨wr.heap.size, 0, none⟩ = some (.string m[j].1) := PC.out 0
          have p1 : w1.cell? ⟨wr.heap.size, 1, none⟩ = some (.int .i64 c0) := PC.out 1
          have p2 : w1.cell? ⟨wr.heap.size, 2, none⟩ = some (.bool c1) := PC.out 2
          have p3 : w1.cell? ⟨wr.heap.size, 3, none⟩ = some (.int .i64 c2) := PC.out 3
          have p4 : w1.cell? ⟨wr.heap.size, 4, none⟩ = some (.string c3) := PC.out 4
          have p5 : w1.cell? ⟨wr.heap.size, 5, none⟩ = some (.slice c4 c4l c4c) := PC.out 5
          have p6 : w1.cell? ⟨wr.heap.size, 6, none⟩ = some (.slice c5 c5l c5c) := PC.out 6
          have HS3 := Lib.hid (HO.out.st.later HB2.out)
          have hsv2 : ∀ g, (Value.slice sa0 ks.length sc0).ownBlock = some g → B + 2 ≤ g ∧ g < wr.heap.size := fun g hg => by have := HSV.out g hg; omega
          have HSV2 := Lib.hid hsv2
          clear PC r0 r1 r2 r3 r4 r5 r6 hsv2
          refine wp_region_growsC (fun wx => w1.heap.size ≤ wx.heap.size ∧ Below B w1 wx ∧ ∀ b, b < w1.heap.size → (Value.slice sa0 ks.length sc0).ownBlock ≠ some b → wx.heap[b]? = w1.heap[b]?) (fun wx => Below w1.heap.size w1 wx) (fun wa wb => wa.grownBy wb (Value.slice sa0 ks.length sc0).ownBlock ∧ w1.heap.size ≤ wa.heap.size) 7 8 (fun i => 32 + i) (fun i x wx => match i with
              | 0 => x = .func (Fn.func 21) #[] #[.pointer (some ⟨B, 0, none⟩), .pointer (some ⟨B + 1, 0, none⟩)] | 1 => x = .pointer (some ⟨wr.heap.size, 1, none⟩) | 2 => x = .agg #[.int .i64 c0, .bool c1, .int .i64 c2, .string c3, .slice c4 c4l c4c, .slice c5 c5l c5c] | 3 => x = .slice sa0 ks.length sc0 | 4 => x = .pointer (some ⟨wr.heap.size, 0, none⟩) | 5 => x = .string m[j].1
              | 6 => ∃ g : Nat, x = .slice (some ⟨g, 0, none⟩) 1 1 ∧ wx.cell? ⟨g, 0, none⟩ = some (.string m[j].1) ∧ w1.heap.size ≤ g ∧ g < wx.heap.size
              | 7 => wx.ownsRow (B + 2) 9 1 x (ks ++ [m[j].1]).length ((ks ++ [m[j].1]).map Value.string) ∧ Tail w1 ks.length (Value.slice sa0 ks.length sc0) x wx ∧ w1.heap.size ≤ wx.heap.size
              | _ => True) (fun wx => ∃ lv3 K3, WOut B v (Value.slice la0 n lc0) (Value.slice sa0 ks.length sc0) n xs ks (flatM (m.take (j + 1))) wx lv3 K3) (by kernel_rfl) (by kernel_rfl) ?g1 (by decide) ⟨Nat.le_refl _, (Below.refl _ _).drew, fun _ _ _ => rfl⟩ (Below.refl _ _).drew ?g2 ?g3 ?g4 ?g5 ?g6 ?g7 ?g8 ?g9 ?g10
          case g1 => intro i hi; exact Nat.lt_of_lt_of_le (show 32 + i < 42 by omega) (Nat.le_refl 42)
          case g2 => exact fun wa wb hb ⟨h1, h2, h3⟩ => ⟨Nat.le_trans h1 hb.size, bstep h2 hb (by omega), fun b hb2 hn => (hb.block b (by omega)).trans (h3 b hb2 hn)⟩
          case g3 => exact fun wa wb ⟨hg, hsz2⟩ ⟨h1, h2, h3⟩ => ⟨Nat.le_trans h1 hg.size, h2.grown hg (by omega) (fun g hg2 => by have := (HSV2.out g hg2).1; omega), fun b hb2 hn => (hg.block b (by omega) (fun e => hn e.symm)).trans (h3 b hb2 hn)⟩
          case g4 => exact fun wa wb hb h => bstep h hb h.size
          case g5 =>
            intro i x wa wb hip hR hU
            obtain ⟨hg, hsz2⟩ := hR
            match i, hU with
            | 6, ⟨g, e, hc, h1, h2⟩ => exact ⟨g, e, (World.cell?_of_block (a := ⟨g, 0, none⟩) (hg.block g h2 fun e => by have := (HSV2.out g e.symm).2; omega)).trans hc, h1, Nat.lt_of_lt_of_le h2 hg.size⟩
            | 7, _ => exact absurd rfl hip
            | 0, h | 1, h | 2, h | 3, h | 4, h | 5, h => exact h
            | (n + 8), _ => trivial
          case g6 =>
            intro i x wa wb hb hU
            match i, hU with
            | 6, ⟨g, e, hc, h1, h2⟩ => exact ⟨g, e, cells_frame hb hc, h1, Nat.lt_of_lt_of_le h2 hb.size⟩
            | 7, ⟨ho, ht, hsz⟩ => exact ⟨own_sameH ho fun g hg => hb.block g (ho.lt g hg).2, ht.later hsz hb, Nat.le_trans hsz hb.size⟩
            | 0, h | 1, h | 2, h | 3, h | 4, h | 5, h => exact h
            | (n + 8), _ => trivial
          case g7 =>
            intro i o ac wb K' ho hi hip hA hB hdep hK
            obtain ⟨hB1, hB2, hB3⟩ := hB
            have s1 : ac.tmps[1]?.getD undef = .slice sa0 ks.length sc0 := hA.sl (t := 1) (by decide)
            have s3 : ac.tmps[3]?.getD undef = .pointer (some ⟨B + 1, 0, none⟩) := hA.sl (t := 3) (by decide)
            have s7 : ac.tmps[7]?.getD undef = .pointer (some ⟨wr.heap.size, 0, none⟩) := hA.sl (t := 7) (by decide)
            have n1 := hB3 wr.heap.size (by omega) (fun e => by have := HSV2.out _ e; omega)
            have n2 := hB3 (B + 1) (by omega) (fun e => by have := HSV2.out _ e; omega)
            have kF := (World.cell?_of_block (a := ⟨B + 1, 0, none⟩) n2).trans HS3.out.fn
            have p0 := (World.cell?_of_block (a := ⟨wr.heap.size, 0, none⟩) n1).trans p0
            have p1 := (World.cell?_of_block (a := ⟨wr.heap.size, 1, none⟩) n1).trans p1
            have p2 := (World.cell?_of_block (a := ⟨wr.heap.size, 2, none⟩) n1).trans p2
            have p3 := (World.cell?_of_block (a := ⟨wr.heap.size, 3, none⟩) n1).trans p3
            have p4 := (World.cell?_of_block (a := ⟨wr.heap.size, 4, none⟩) n1).trans p4
            have p5 := (World.cell?_of_block (a := ⟨wr.heap.size, 5, none⟩) n1).trans p5
            have p6 := (World.cell?_of_block (a := ⟨wr.heap.size, 6, none⟩) n1).trans p6
            clear n1 n2 hA hB3
            rcases (by omega : i = 0 ∨ i = 1 ∨ i = 2 ∨ i = 3 ∨ i = 4 ∨ i = 5 ∨ i = 6) with rfl | rfl | rfl | rfl | rfl | rfl | rfl
            · simp at ho
              subst ho
              clear hdep
              go_simp
              exact hK _ wb (Below.refl _ _) rfl
            · simp at ho
              subst ho
              clear hdep
              go_simp
              exact hK _ wb (Below.refl _ _) rfl
            · simp at ho
              subst ho
              have y1 : ac.tmps[33]?.getD undef = .pointer (some ⟨wr.heap.size, 1, none⟩) := hdep { on := 1, ground := .data } (by simp) rfl
              clear hdep
              go_simp
              exact hK _ wb (Below.refl _ _) rfl
            · simp at ho
              subst ho
              clear hdep
              go_simp
              exact hK _ wb (Below.refl _ _) rfl
            · simp at ho
              subst ho
              clear hdep
              go_simp
              exact hK _ wb (Below.refl _ _) rfl
            · simp at ho
              subst ho
              have y4 : ac.tmps[36]?.getD undef = .pointer (some ⟨wr.heap.size, 0, none⟩) := hdep { on := 4, ground := .data } (by simp) rfl
              clear hdep
              go_simp
              exact hK _ wb (Below.refl _ _) rfl
            · simp at ho
              subst ho
              have y5 : ac.tmps[37]?.getD undef = .string m[j].1 := hdep { on := 5, ground := .data } (by simp) rfl
              clear hdep
              go_simp
              exact hK _ _ ((Below.refl _ _).alloc (Nat.le_refl _) _) ⟨wb.heap.size, rfl, by rw [World.cell?_alloc_new]; rfl, hB1, by simp⟩
          case g8 =>
            intro o ac wb K' ho hA hB hG hdep hK
            obtain ⟨hB1, hB2, hB3⟩ := hB
            simp at ho
            subst ho
            have y3 : ac.tmps[35]?.getD undef = .slice sa0 ks.length sc0 := hdep { on := 3, ground := .data } (by simp) rfl
            obtain ⟨g, y6, hgc, hg1, hg2⟩ := hdep { on := 6, ground := .data } (by simp) rfl
            have y6 : ac.tmps[38]?.getD undef = .slice (some ⟨g, 0, none⟩) 1 1 := y6
            have ownb : wb.ownsRow (B + 2) 9 1 (Value.slice sa0 ks.length sc0) ks.length (ks.map Value.string) := own_sameH HS3.out.steps fun g hg => hG.block g (HS3.out.steps.lt g hg).2
            refine wp_append_tail rfl (.tmp 35) (.tmp 38) 33 rfl (B + 2) 9 i0 _ 1 16 Try.underlying33 HI0.out HZ0.out HZ1.out HZ2.out (by rfl) (by decide) (Value.slice sa0 ks.length sc0) ks.length _ (by first | exact y3 | (simp [Act.eval]; exact y3) | (go_simp)) ownb ⟨g, 0, none⟩ 1 [.string m[j].1] (by first | exact y6 | (simp [Act.eval]; exact y6) | (go_simp)) rfl (fun j' u hu => by
              rw [Addr.add_lit, Nat.zero_add]
              cases j' with
              | zero => injection hu with hu; subst hu; exact hgc
              | succ j' => cases hu) (fun u hu => by
              simp at hu
              subst hu
              rfl) (by unfold maxLen; omega) (by omega) (by omega) ?_
            intro v5 w5 own5 hg5 hob5
            have ht : Tail w1 ks.length (Value.slice sa0 ks.length sc0) v5 w5 := by
              rcases hob5 with ⟨g, cap, e1, e2⟩ | ⟨e1, hg6⟩
              · exact .same g cap e1 e2
              · exact .own _ e1 hB1 fun b hlt => (hg6.block b (by omega) (by simp)).trans (hG.block b hlt)
            refine hK _ w5 ⟨hg5, hB1⟩ ⟨?_, ht, Nat.le_trans hB1 hg5.size⟩
            rw [List.length_append, List.map_append]
            exact own5
          case g9 =>
            intro o ac wb K' ho hA hB hU hK
            obtain ⟨hB1, hB2, hB3⟩ := hB
            simp at ho
            subst ho
            have y0 : ac.tmps[32]?.getD undef = .func (Fn.func 21) #[] #[.pointer (some ⟨B, 0, none⟩), .pointer (some ⟨B + 1, 0, none⟩)] := hU 0 (by omega)
            have y2 : ac.tmps[34]?.getD undef = .agg #[.int .i64 c0, .bool c1, .int .i64 c2, .string c3, .slice c4 c4l c4c, .slice c5 c5l c5c] := hU 2 (by omega)
            obtain ⟨hown, ht, _⟩ := hU 7 (by omega)
            obtain ⟨sv7, hsv7⟩ : ∃ sv7, sv7 = ac.tmps[39]?.getD undef := ⟨_, rfl⟩
            have y7 : ac.tmps[39]?.getD undef = sv7 := hsv7.symm
            have hown : wb.ownsRow (B + 2) 9 1 sv7 (ks ++ [m[j].1]).length ((ks ++ [m[j].1]).map Value.string) := by rw [hsv7]; exact hown
            have ht : Tail w1 ks.length (Value.slice sa0 ks.length sc0) sv7 wb := by rw [hsv7]; exact ht
            clear hsv7
            have htr := ht.down HB2.out
            have hrest : ∀ b, b < wr.heap.size → (Value.slice sa0 ks.length sc0).ownBlock ≠ some b → wb.heap[b]? = wr.heap[b]? := fun b hlt hne => (hB3 b (by omega) hne).trans (HB2.out.block b hlt)
            have hst3 := HO.out.st.push hrest htr hown hko
            have hbe : Below B wr wb := (HB2.out.mono (by omega)).trans hB2
            have HC := Lib.hid (IHJ.out B wb lvj sv7 (n + Kj.length) (xs ++ flatK Kj) (ks ++ [m[j].1]) hpj (HWW.out.trans (hbe.mono hwB)) hwB hst3 (by omega) (by rw [List.length_append, List.length_singleton]; omega))
            clear hU hA hown ht hst3 hB3
            go_simp
            refine HC.out.mono ?_
            rintro e w3 ⟨rfl, lv3, K3, h3⟩
            refine hK _ w3 ⟨lv3, Kj ++ K3, ?_⟩
            rw [TK.out]
            exact WOut.step HST.out HO.out hbe hrest htr h3
          case g10 =>
            intro ac wn hA ⟨lv3, K3, hout⟩
            have HO3 := Lib.hid hout
            clear hout
            have hs : slots 9 (fun i => 32 + i) = [32, 33, 34, 35, 36, 37, 38, 39, 40] := by rfl
            rw [hs] at hA
            have hac := hA.act (fun t ht => by
              have h8 : t = 32 ∨ t = 33 ∨ t = 34 ∨ t = 35 ∨ t = 36 ∨ t = 37 ∨ t = 38 ∨ t = 39 ∨ t = 40 := by simpa using ht
              rcases h8 with rfl | rfl | rfl | rfl | rfl | rfl | rfl | rfl | rfl <;> exact Nat.lt_of_lt_of_le (by decide : _ < 42) (Nat.le_refl 42))
            rw [List.foldl_cons, List.foldl_cons, List.foldl_cons, List.foldl_cons, List.foldl_cons, List.foldl_cons, List.foldl_cons, List.foldl_cons, List.foldl_cons, List.foldl_nil] at hac
            generalize sl ac 32 = x32 at hac
            generalize sl ac 33 = x33 at hac
            generalize sl ac 34 = x34 at hac
            generalize sl ac 35 = x35 at hac
            generalize sl ac 36 = x36 at hac
            generalize sl ac 37 = x37 at hac
            generalize sl ac 38 = x38 at hac
            generalize sl ac 39 = x39 at hac
            generalize sl ac 40 = x40 at hac
            clear hA hs
            subst hac
            simp only [Act.put, List.setIfInBounds_toArray, List.set_cons_succ, List.set_cons_zero]
            clear p0 p1 p2 p3 p4 p5 p6 HO
            go_wp2_with fail
            go_roundw
            case rel => exact ⟨j + 1, lv3, K3, by omega, by go_num, HO3⟩
            case measure => simp [intOf]; omega
        · obtain rfl : j = m.length := by omega
          have HF : Hid (WOut B v (Value.slice la0 n lc0) (Value.slice sa0 ks.length sc0) n xs ks (flatM m) wr lvj Kj) := by
            have := HO.out
            rw [List.take_length] at this
            exact this
          go_wp2_with fail
          first | (refine bodyPost_end (results_none rfl _ _ _) rfl ?_) | (refine bodyPost_ret (results_none rfl _ _ _) rfl ?_)
          exact ⟨rfl, lvj, Kj, by rw [LV.out]; exact HF.out.unbox HB1.out (by omega)⟩

end Go.Proofs.Ytfmlhdkodnbfaaa
