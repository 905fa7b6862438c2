/-
  The reference's Strip.
-/
import Derived.Test.YtlniokpekcoodaaGreatDoorRPutV
import Derived.Test.YtlniokpekcoodaaGreatDoorSpecsM
import Derived.Test.YtlniokpekcoodaaGreatDoorLaid
import Derived.Test.YtlniokpekcoodaaGreatDoorOverZM
set_option linter.unusedVariables false
set_option linter.unusedSimpArgs false
namespace Go.Proofs.YtlniokpekcoodaaGreatDoor
open Go.RowKit Go.Sort

theorem alloc_fst {v w : World} {cs zs : Array Value} {ty tz : TypeId} (h : Below ((v.alloc (.cells zs tz)).alloc (.cells cs ty)).heap.size ((v.alloc (.cells zs tz)).alloc (.cells cs ty)) w) :
    (∀ j, w.cell? ⟨v.heap.size, j, none⟩ = zs[j]?) ∧ (∀ j, w.frozen? ⟨v.heap.size, j, none⟩ = false) ∧ Below v.heap.size v w ∧ v.heap.size < w.heap.size := by
  have h2 := bstep ((Below.refl _ _).alloc (Nat.le_refl _) (.cells cs ty)) h (by simp)
  have y := one_boxL (w := v) h2
  refine ⟨y.1, y.2, bstep ((Below.refl _ _).alloc (Nat.le_refl _) (.cells zs tz)) h2 (by simp), ?_⟩
  have := h.size
  simp at this
  omega

theorem wp_append_own {P : Program} {o : Oper} {a : Act} {w : World} {K : Act → World → Prop} {Q : Exit → Act → World → Prop}
    (hg : o.guard = none) (s x : Operand) (t : TypeId) (hop : o.op = Op.call { callee := Callee.builtin Builtin.append, args := #[s, x], argTypes := #[t, t] })
    (base : Nat) (e : TypeId) (i : TypeInfo) (z : Value) (size bytes : Nat) (ht : P.underlying t = some (.slice e)) (hi : P.info? e = some i) (hz : i.zero = some z)
    (hsize : i.size = size) (hby : i.bytes = bytes) (hzs : z.cells.size = size) (hsz : 0 < size)
    (v : Value) (n : Nat) (xs : List Value) (hs : a.eval s = v) (hown : w.ownsRow base e size v n xs)
    (ad : Addr) (m c : Nat) (news : List Value) (hx : a.eval x = .slice (some ad) m c) (hl : news.length = m * size) (hnews : ∀ j u, news[j]? = some u → w.cell? (ad.add j) = some u) (h1 : ∀ u ∈ news, u.oneCell' = true)
    (h63 : n + m ≤ maxLen) (hbytes : (n + m) * bytes ≤ 140737488355328) (hbase : base ≤ w.heap.size)
    (hK : ∀ v' w', w'.ownsRow base e size v' (n + m) (xs ++ news) → w.grownBy w' v.ownBlock → (v'.ownBlock = v.ownBlock ∨ v'.ownBlock = some w.heap.size) → K (a.put o.dst v') w') : o.wp P a w K Q := by
  have h := step_append_own (Q := Q) (ops := #[]) (E := True) hg s x t hop base e i z size bytes ht hi hz hsize hby hzs hsz v n xs hs hown ad m c news hx hl hnews h1 h63 hbytes hbase hK
  have hw : Region.wanted o (yielded #[] a.tmps) = true := by simp [Region.wanted, hg]
  rw [if_pos hw] at h
  exact h

theorem strip_next (m : Prs) (j : Nat) (hj : j < m.length) : overR [] (m.drop j) = (if m[j].2.kind = 0 then [] else [(m[j].1, T.over T.nil m[j].2)]) ++ overR [] (m.drop (j + 1)) := by
  rw [drop_cons m j hj, overR_cons]
  rfl

set_option maxRecDepth 100000 in
set_option maxHeartbeats 4000000 in
theorem rStrip_any {w0 : World} {R : Nat → Prop} {t : T} {cs : Array Value} (h : Lies w0 R t cs) : ∀ (w : World), Below w0.heap.size w0 w → t.size ≤ 1000000 → Calls Tryz.prog 33 #[.agg cs] w (RPutIn w0 R w (T.over T.nil t)) := by
  induction h with
  | mk k b n s l m la lc ma mc cl cm hk hn hs hl hm rl rm ks il im ihl ihm =>
    intro w hw hus
    have HT := Lib.hid (Lies.mk (w := w0) k b n s l m la lc ma mc cl cm hk hn hs hl hm rl rm ks il im)
    have HM : Hid (SliceP w0 R m ma mc cm) := ⟨hm, rm, ks, im⟩
    have IH := Lib.hid ihm
    have hle := hm.le
    have hbig := hm.big
    have hml : m.length ≤ 1000000 := by
      have h1 := len_le_sumL (fun p : ByteArray × T => p.2.size) m (fun q _ => size_posL q.2)
      rw [T.size_mk] at hus
      omega
    have hmz : Hid (∀ i (hi : i < m.length), m[i].2.size ≤ 1000000) := fun i hi => by
      have h1 := le_sum (List.mem_map.2 ⟨m[i], List.getElem_mem hi, rfl⟩ : m[i].2.size ∈ m.map fun p => p.2.size)
      rw [T.size_mk] at hus
      omega
    clear hk hn hs hl hm rl rm ks il im ihl ihm hus
    obtain ⟨dd, hu, hdd⟩ := Tryz.structV
    have DD := Lib.hid hdd
    have HU := Lib.hid hu
    clear hu hdd
    by_cases h5 : k = 5
    case neg =>
      have HT2 := Lib.hid (over_other T.nil b n s l m h5)
      have f1 : (k != 5) = true := by simp [h5]
      rw [HT2.out]
      clear h5
      have e1 : (w.alloc (.cells #[.int .i64 k, .bool b, .int .i64 n, .string s, .slice la l.length lc, .slice ma m.length mc] 25)).heap.size = w.heap.size + 1 := by simp
      have h2 := Lib.hid (((Below.refl w.heap.size w).alloc (Nat.le_refl _) (.cells #[.int .i64 k, .bool b, .int .i64 n, .string s, .slice la l.length lc, .slice ma m.length mc] 25)).alloc (by simp) (.cells #[.int .i64 k, .bool b, .int .i64 n, .string s, .slice la l.length lc, .slice ma m.length mc] 25))
      have E1 := Lib.hid e1
      clear e1
      go_enter Tryz.func33, Tryz.ntmps33
      go_wp2_with fail
      refine ret_read (w.heap.size + 1) #[.int .i64 k, .bool b, .int .i64 n, .string s, .slice la l.length lc, .slice ma m.length mc] Tryz.results33 rfl rfl DD.out HU.out Tryz.sizeV (fun i hi => ?_) ?_
      · rw [← E1.out, World.cell?_alloc_new]
        exact Array.getElem?_eq_getElem hi
      · exact ⟨_, rfl, (HT.out.bound.later (bstep hw h2.out hw.size)).weaken (fun b hb => .inl hb), h2.out⟩
    case pos =>
      subst h5
      have HT2 := Lib.hid (over_nil_map b n s l m)
      rw [HT2.out]
      obtain ⟨i0, hi, hz0, hz1, hz2⟩ := info_parts Tryz.infoP
      have HI0 := Lib.hid hi
      have HZ0 := Lib.hid hz0
      have HZ1 := Lib.hid hz1
      have HZ2 := Lib.hid hz2
      have B2 := (Below.refl ((w.alloc (.cells #[.int .i64 5, .bool b, .int .i64 n, .string s, .slice la l.length lc, .slice ma m.length mc] 25)).alloc (.cells #[.int .i64 0, .bool false, .int .i64 0, .string ⟨#[]⟩, .slice none 0 0, .slice none 0 0] 25)).heap.size ((w.alloc (.cells #[.int .i64 5, .bool b, .int .i64 n, .string s, .slice la l.length lc, .slice ma m.length mc] 25)).alloc (.cells #[.int .i64 0, .bool false, .int .i64 0, .string ⟨#[]⟩, .slice none 0 0, .slice none 0 0] 25))).alloc (Nat.le_refl _) (.cells #[.int .i64 5, .bool false, .int .i64 0, .string ⟨#[]⟩, .slice none 0 0, .slice none 0 0] 25)
      obtain ⟨q1, q2, hb2, hl2⟩ := alloc_snd B2
      have q0 := (alloc_fst B2).1
      have e3 : ((w.alloc (.cells #[.int .i64 5, .bool b, .int .i64 n, .string s, .slice la l.length lc, .slice ma m.length mc] 25)).alloc (.cells #[.int .i64 0, .bool false, .int .i64 0, .string ⟨#[]⟩, .slice none 0 0, .slice none 0 0] 25)).heap.size = w.heap.size + 1 + 1 := by simp
      have BO := BoxA.new ((w.alloc (.cells #[.int .i64 5, .bool b, .int .i64 n, .string s, .slice la l.length lc, .slice ma m.length mc] 25)).alloc (.cells #[.int .i64 0, .bool false, .int .i64 0, .string ⟨#[]⟩, .slice none 0 0, .slice none 0 0] 25)) (.int .i64 5) (.bool false) (.int .i64 0) (.string ⟨#[]⟩) (.slice none 0 0) (.slice none 0 0) 25
      have FO := fun j => World.frozen?_alloc_new ((w.alloc (.cells #[.int .i64 5, .bool b, .int .i64 n, .string s, .slice la l.length lc, .slice ma m.length mc] 25)).alloc (.cells #[.int .i64 0, .bool false, .int .i64 0, .string ⟨#[]⟩, .slice none 0 0, .slice none 0 0] 25)) #[.int .i64 5, .bool false, .int .i64 0, .string ⟨#[]⟩, .slice none 0 0, .slice none 0 0] 25 j
      rw [e3] at BO FO
      have Q0 := Lib.hid q0
      have Q1 := Lib.hid q1
      have Q2 := Lib.hid q2
      have BO0 := Lib.hid BO
      have FO0 := Lib.hid FO
      have AV := Lib.hid hb2
      have HSV : Hid ((((w.alloc (.cells #[.int .i64 5, .bool b, .int .i64 n, .string s, .slice la l.length lc, .slice ma m.length mc] 25)).alloc (.cells #[.int .i64 0, .bool false, .int .i64 0, .string ⟨#[]⟩, .slice none 0 0, .slice none 0 0] 25)).alloc (.cells #[.int .i64 5, .bool false, .int .i64 0, .string ⟨#[]⟩, .slice none 0 0, .slice none 0 0] 25)).heap.size = w.heap.size + 3) := by show _ = _; simp
      clear hi hz0 hz1 hz2 q0 q1 q2 e3 BO FO B2 hb2 hl2 HT
      go_enter Tryz.func33, Tryz.ntmps33
      go_wp2_with fail
      generalize hv : ((w.alloc (.cells #[.int .i64 5, .bool b, .int .i64 n, .string s, .slice la l.length lc, .slice ma m.length mc] 25)).alloc (.cells #[.int .i64 0, .bool false, .int .i64 0, .string ⟨#[]⟩, .slice none 0 0, .slice none 0 0] 25)).alloc (.cells #[.int .i64 5, .bool false, .int .i64 0, .string ⟨#[]⟩, .slice none 0 0, .slice none 0 0] 25) = v at *
      clear hv
      have hvs := HSV.out
      have c5' : v.cell? ⟨w.heap.size, 5, none⟩ = some (.slice ma m.length mc) := Q0.out 5
      go_loopw [4] (fun v4 wr => ∃ (j : Nat) (al : Option Addr) (cl' : Nat) (K : List Q), j ≤ m.length ∧ v4 = .int .i64 j ∧ Hid (OwnW (fun b => (R b ∧ b < w0.heap.size) ∨ w.heap.size + 2 < b) (w.heap.size + 2) wr (.slice al K.length cl') K) ∧ Hid (K.map strip ++ overR [] (m.drop j) = overR [] m) ∧ K.length ≤ j ∧ Hid (BoxA wr (w.heap.size + 1 + 1) (.int .i64 5) (.bool false) (.int .i64 0) (.string ⟨#[]⟩) (.slice none 0 0) (.slice al K.length cl')) ∧ Hid (∀ j, wr.frozen? ⟨w.heap.size + 1 + 1, j, none⟩ = false) ∧ Hid (∀ b, b < v.heap.size → b ≠ w.heap.size + 2 → wr.heap[b]? = v.heap[b]?) ∧ v.heap.size ≤ wr.heap.size ∧ Hid (Below w.heap.size w wr)) (fun v4 _ => m.length - (intOf v4).toNat)
      case atStart => exact ⟨0, none, 0, [], by omega, rfl, OwnW.nil _ _ _, by show _ = _; simp, by simp, BO0, FO0, fun _ _ _ => rfl, Nat.le_refl _, AV⟩
      case round =>
        obtain ⟨j, al, cl', K, hj, rfl, HK, HE, hKl, BO, FZ, KP, SZ, HB⟩ := hrel
        have hkp := KP.out
        have hsz := SZ
        by_cases hjl : j < m.length
        · obtain ⟨bl, ol, hma, _⟩ := HM.out.hdr.some (by omega)
          subst hma
          have HN := Lib.hid (strip_next m j hjl)
          have xk5 : wr.cell? ⟨w.heap.size, 5, none⟩ = some (.slice (some ⟨bl, ol, none⟩) m.length mc) := (World.cell?_of_block (hkp w.heap.size (by omega) (by omega))).trans c5'
          have hWw := bstep hw HB.out hw.size
          obtain ⟨bl2, ol2, c0, c1, c2, c3, c4, c4l, c4c, c5, c5l, c5c, e2, hc, r0, r1, r2, r3, r4, r5, r6⟩ := openM hWw HM.out.hdr HM.out.rows hjl (HM.out.each j hjl)
          obtain ⟨rfl, rfl⟩ : bl = bl2 ∧ ol = ol2 := by simpa using e2
          have IHj := fun w hw a => IH.out j hjl w hw a
          rw [hc] at IHj
          have IHJ := Lib.hid IHj
          have kj : m[j].2.kind = c0 := by
            have := HM.out.each j hjl
            rw [hc] at this
            exact lies_kind this
          have hko := HM.out.keys j hjl
          have hmzj := hmz.out j hjl
          clear hc e2 hkp IHj
          by_cases hc0 : c0 = 0
          · have f1 : (c0 != 0) = false := by simp [hc0]
            have HE2 : Hid (K.map strip ++ overR [] (m.drop (j + 1)) = overR [] m) := by
              show _ = _
              rw [← HE.out, HN.out, if_pos (kj.trans hc0), List.nil_append]
            clear hc0 kj hWw
            go_wp2_with fail
            go_roundw
            case rel => exact ⟨j + 1, al, cl', K, by omega, by go_num, HK, HE2, by omega, BO, FZ, KP, SZ, HB⟩
            case measure => simp [intOf]; omega
          · have f1 : (c0 != 0) = true := by simp [hc0]
            have HE2 : Hid (∀ ds : Array Value, (K ++ [(m[j].1, T.over T.nil m[j].2, ds)]).map strip ++ overR [] (m.drop (j + 1)) = overR [] m) := fun ds => by
              rw [← HE.out, HN.out, if_neg (by rw [kj]; exact hc0), List.map_append, List.append_assoc]
              rfl
            clear hc0 kj
            go_upto_region 8 with fail
            obtain ⟨xo0, xo1, xo2, xo3, xo4, xo5⟩ := BO.out
            have hex := World.block_lt_of_cell? _ _ xo5
            have hobK : ∀ g, (Value.slice al K.length cl').ownBlock = some g → w.heap.size + 2 < g ∧ g < wr.heap.size := fun g hg => HK.out.block hg
            have hexK : (Value.slice al K.length cl').ownBlock ≠ some (w.heap.size + 2) := fun e => by have := (hobK _ e).1; omega
            have hbl : bl < w0.heap.size := by
              obtain ⟨b', o', e', hR⟩ := HM.out.boundL.hdr.some (by omega)
              obtain ⟨rfl, rfl⟩ : bl = b' ∧ ol = o' := by simpa using e'
              exact hR.2
            have hw0 := hw.size
            refine wp_region_grows (fun wx => wr.heap.size ≤ wx.heap.size ∧ Below w.heap.size w wx ∧ ∀ b, b < wr.heap.size → (Value.slice al K.length cl').ownBlock ≠ some b → wx.heap[b]? = wr.heap[b]?) (fun wx => OwnW (fun b => (R b ∧ b < w0.heap.size) ∨ w.heap.size + 2 < b) (w.heap.size + 2) wx (.slice al K.length cl') K) (fun w1 w2 => w1.grownBy w2 (Value.slice al K.length cl').ownBlock ∧ wr.heap.size ≤ w1.heap.size) 17 19 (fun i => 25 + i) (fun i x wx => match i with
                | 0 => x = .pointer (some ⟨w.heap.size + 1 + 1, 5, none⟩) | 1 => x = .slice al K.length cl' | 2 => x = .pointer (some ⟨w.heap.size, 5, none⟩) | 3 => x = .slice (some ⟨bl, ol, none⟩) m.length mc | 4 => x = .int .i64 j | 5 => x = .pointer (some ⟨bl, ol + j * 7, none⟩) | 6 => x = .pointer (some ⟨bl, ol + j * 7, none⟩) | 7 => x = .string m[j].1 | 8 => x = .pointer (some ⟨w.heap.size, 5, none⟩) | 9 => x = .slice (some ⟨bl, ol, none⟩) m.length mc | 10 => x = .int .i64 j | 11 => x = .pointer (some ⟨bl, ol + j * 7, none⟩) | 12 => x = .pointer (some ⟨bl, ol + j * 7 + 1, none⟩) | 13 => x = .agg #[.int .i64 c0, .bool c1, .int .i64 c2, .string c3, .slice c4 c4l c4c, .slice c5 c5l c5c]
                | 14 => ∃ ds : Array Value, x = .agg ds ∧ Lies wx (fun b => (R b ∧ b < w0.heap.size) ∨ wr.heap.size ≤ b) (T.over T.nil m[j].2) ds
                | 15 => ∃ ds : Array Value, x = .agg (#[Value.string m[j].1] ++ ds) ∧ Lies wx (fun b => (R b ∧ b < w0.heap.size) ∨ wr.heap.size ≤ b) (T.over T.nil m[j].2) ds
                | 16 => ∃ (g : Nat) (ds : Array Value), x = .slice (some ⟨g, 0, none⟩) 1 1 ∧ (∀ j' u, (#[Value.string m[j].1] ++ ds).toList[j']? = some u → wx.cell? ⟨g, j', none⟩ = some u) ∧ Lies wx (fun b => (R b ∧ b < w0.heap.size) ∨ wr.heap.size ≤ b) (T.over T.nil m[j].2) ds ∧ wr.heap.size ≤ g ∧ g < wx.heap.size
                | 17 => ∃ (a7 : Option Addr) (e7 : Nat) (ds : Array Value), x = .slice a7 (K.length + 1) e7 ∧ OwnW (fun b => (R b ∧ b < w0.heap.size) ∨ w.heap.size + 2 < b) (w.heap.size + 2) wx (.slice a7 (K.length + 1) e7) (K ++ [(m[j].1, T.over T.nil m[j].2, ds)])
                | 18 => x = .pointer (some ⟨w.heap.size + 1 + 1, 5, none⟩) | _ => True) (fun _ wx => ∃ (a7 : Option Addr) (e7 : Nat) (ds : Array Value), Hid (OwnW (fun b => (R b ∧ b < w0.heap.size) ∨ w.heap.size + 2 < b) (w.heap.size + 2) wx (.slice a7 (K.length + 1) e7) (K ++ [(m[j].1, T.over T.nil m[j].2, ds)])) ∧ Hid (BoxA wx (w.heap.size + 1 + 1) (.int .i64 5) (.bool false) (.int .i64 0) (.string ⟨#[]⟩) (.slice none 0 0) (.slice a7 (K.length + 1) e7)) ∧ Hid (∀ j, wx.frozen? ⟨w.heap.size + 1 + 1, j, none⟩ = false) ∧ Hid (∀ b, b < v.heap.size → b ≠ w.heap.size + 2 → wx.heap[b]? = v.heap[b]?) ∧ v.heap.size ≤ wx.heap.size ∧ Hid (Below w.heap.size w wx)) (by kernel_rfl) (by kernel_rfl) ?g1 (by decide) ⟨Nat.le_refl _, HB.out.drew, fun _ _ _ => rfl⟩ (HK.out.later (Below.refl _ _).drew) ?g2 ?g3 ?g4 ?g5 ?g6 ?g7 ?g8 ?g9 ?g10
            case g1 => intro i hi; exact Nat.lt_of_lt_of_le (show 25 + i < 45 by omega) (Nat.le_refl 45)
            case g2 => exact fun w1 w2 hb ⟨h1, h2, h3⟩ => ⟨Nat.le_trans h1 hb.size, bstep h2 hb h2.size, fun b hb2 hn => (hb.block b (by omega)).trans (h3 b hb2 hn)⟩
            case g3 => exact fun w1 w2 ⟨hg, hsz2⟩ ⟨h1, h2, h3⟩ => ⟨Nat.le_trans h1 hg.size, h2.grown hg h2.size (fun g hg2 => by have := (hobK g hg2).1; omega), fun b hb2 hn => (hg.block b (by omega) (fun e => hn e.symm)).trans (h3 b hb2 hn)⟩
            case g4 => exact fun w1 w2 hb h => h.later hb
            case g5 =>
              intro i x w1 w2 hip hR hU
              obtain ⟨hg, hsz2⟩ := hR
              have hob : ∀ g, (Value.slice al K.length cl').ownBlock = some g → w.heap.size + 2 < g ∧ g < wr.heap.size := hobK
              have keepL : ∀ {X : T} {ds : Array Value}, Lies w1 (fun b => (R b ∧ b < w0.heap.size) ∨ wr.heap.size ≤ b) X ds → Lies w2 (fun b => (R b ∧ b < w0.heap.size) ∨ wr.heap.size ≤ b) X ds := fun hl =>
                (hl.keepB (fun b hRb hlt => hg.block b hlt (fun e => by
                  have := hob _ e.symm
                  rcases hRb with h | h
                  · have := h.2; omega
                  · omega))).weaken fun b hb => hb.1
              match i, hU with
              | 14, ⟨ds, e, hl⟩ => exact ⟨ds, e, keepL hl⟩
              | 15, ⟨ds, e, hl⟩ => exact ⟨ds, e, keepL hl⟩
              | 16, ⟨g, ds, e, hc, hl, h1, h2⟩ => exact ⟨g, ds, e, fun j' u hu => (World.cell?_of_block (hg.block g h2 (fun e => by have := hob _ e.symm; omega))).trans (hc j' u hu), keepL hl, h1, Nat.lt_of_lt_of_le h2 hg.size⟩
              | 17, _ => exact absurd rfl hip
              | 0, h | 1, h | 2, h | 3, h | 4, h | 5, h | 6, h | 7, h | 8, h | 9, h | 10, h | 11, h | 12, h | 13, h | 18, h => exact h
              | (n + 19), _ => trivial
            case g6 =>
              intro i x w1 w2 hb hU
              match i, hU with
              | 14, ⟨ds, e, hl⟩ => exact ⟨ds, e, hl.later hb⟩
              | 15, ⟨ds, e, hl⟩ => exact ⟨ds, e, hl.later hb⟩
              | 16, ⟨g, ds, e, hc, hl, h1, h2⟩ => exact ⟨g, ds, e, fun j' u hu => (hb.cell (p := ⟨g, j', none⟩) h2).trans (hc j' u hu), hl.later hb, h1, Nat.lt_of_lt_of_le h2 hb.size⟩
              | 17, ⟨a7, e7, ds, e, ho⟩ => exact ⟨a7, e7, ds, e, ho.later hb⟩
              | 0, h | 1, h | 2, h | 3, h | 4, h | 5, h | 6, h | 7, h | 8, h | 9, h | 10, h | 11, h | 12, h | 13, h | 18, h => exact h
              | (n + 19), _ => trivial
            case g7 =>
              intro i o ac wb K' ho hi hip hA hB hdep hK
              obtain ⟨hB1, hB2, hB3⟩ := hB
              have s1 : ac.tmps[1]?.getD undef = .pointer (some ⟨w.heap.size, 0, none⟩) := hA.sl (t := 1) (by decide)
              have s3 : ac.tmps[3]?.getD undef = .pointer (some ⟨w.heap.size + 1 + 1, 0, none⟩) := hA.sl (t := 3) (by decide)
              have s4 : ac.tmps[4]?.getD undef = .int .i64 j := hA.sl (t := 4) (by decide)
              have n1 := hB3 w.heap.size (by omega) (fun e => by have := (hobK _ e).1; omega)
              have n2 := hB3 (w.heap.size + 2) hex (fun e => by have := (hobK _ e).1; omega)
              have n3 := hB3 bl (by omega) (fun e => by have := (hobK _ e).1; omega)
              have k5 : wb.cell? ⟨w.heap.size, 5, none⟩ = some (.slice (some ⟨bl, ol, none⟩) m.length mc) := (World.cell?_of_block n1).trans xk5
              have k6 : wb.cell? ⟨w.heap.size + 1 + 1, 5, none⟩ = some (.slice al K.length cl') := (World.cell?_of_block n2).trans xo5
              have r0 := (World.cell?_of_block (a := ⟨bl, ol + j * 7, none⟩) n3).trans r0
              have r1 := (World.cell?_of_block (a := ⟨bl, ol + j * 7 + 1, none⟩) n3).trans r1
              have r2 := (World.cell?_of_block (a := ⟨bl, ol + j * 7 + 2, none⟩) n3).trans r2
              have r3 := (World.cell?_of_block (a := ⟨bl, ol + j * 7 + 3, none⟩) n3).trans r3
              have r4 := (World.cell?_of_block (a := ⟨bl, ol + j * 7 + 4, none⟩) n3).trans r4
              have r5 := (World.cell?_of_block (a := ⟨bl, ol + j * 7 + 5, none⟩) n3).trans r5
              have r6 := (World.cell?_of_block (a := ⟨bl, ol + j * 7 + 6, none⟩) n3).trans r6
              clear n1 n2 n3 hB3 hA
              rcases (by omega : i = 0 ∨ i = 1 ∨ i = 2 ∨ i = 3 ∨ i = 4 ∨ i = 5 ∨ i = 6 ∨ i = 7 ∨ i = 8 ∨ i = 9 ∨ i = 10 ∨ i = 11 ∨ i = 12 ∨ i = 13 ∨ i = 14 ∨ i = 15 ∨ i = 16 ∨ i = 18) with rfl | rfl | rfl | rfl | rfl | rfl | rfl | rfl | rfl | rfl | rfl | rfl | rfl | rfl | rfl | rfl | rfl | rfl
              · simp at ho
                subst ho
                go_simp
                exact hK _ wb (Below.refl _ _) rfl
              · simp at ho
                subst ho
                have y0 : ac.tmps[25]?.getD undef = _ := hdep { on := 0, ground := .data } (by simp) rfl
                go_simp
                exact hK _ wb (Below.refl _ _) rfl
              · simp at ho
                subst ho
                go_simp
                exact hK _ wb (Below.refl _ _) rfl
              · simp at ho
                subst ho
                have y0 : ac.tmps[27]?.getD undef = _ := hdep { on := 2, ground := .data } (by simp) rfl
                go_simp
                exact hK _ wb (Below.refl _ _) rfl
              · simp at ho
                subst ho
                go_simp
                exact hK _ wb (Below.refl _ _) rfl
              · simp at ho
                subst ho
                have y0 : ac.tmps[28]?.getD undef = _ := hdep { on := 3, ground := .data } (by simp) rfl
                have y1 : ac.tmps[29]?.getD undef = _ := hdep { on := 4, ground := .data } (by simp) rfl
                go_simp
                exact hK _ wb (Below.refl _ _) rfl
              · simp at ho
                subst ho
                have y0 : ac.tmps[30]?.getD undef = _ := hdep { on := 5, ground := .data } (by simp) rfl
                go_simp
                exact hK _ wb (Below.refl _ _) rfl
              · simp at ho
                subst ho
                have y0 : ac.tmps[31]?.getD undef = _ := hdep { on := 6, ground := .data } (by simp) rfl
                go_simp
                exact hK _ wb (Below.refl _ _) rfl
              · simp at ho
                subst ho
                go_simp
                exact hK _ wb (Below.refl _ _) rfl
              · simp at ho
                subst ho
                have y0 : ac.tmps[33]?.getD undef = _ := hdep { on := 8, ground := .data } (by simp) rfl
                go_simp
                exact hK _ wb (Below.refl _ _) rfl
              · simp at ho
                subst ho
                go_simp
                exact hK _ wb (Below.refl _ _) rfl
              · simp at ho
                subst ho
                have y0 : ac.tmps[34]?.getD undef = _ := hdep { on := 9, ground := .data } (by simp) rfl
                have y1 : ac.tmps[35]?.getD undef = _ := hdep { on := 10, ground := .data } (by simp) rfl
                go_simp
                exact hK _ wb (Below.refl _ _) rfl
              · simp at ho
                subst ho
                have y0 : ac.tmps[36]?.getD undef = _ := hdep { on := 11, ground := .data } (by simp) rfl
                go_simp
                exact hK _ wb (Below.refl _ _) rfl
              · simp at ho
                subst ho
                have y0 : ac.tmps[37]?.getD undef = _ := hdep { on := 12, ground := .data } (by simp) rfl
                go_simp
                exact hK _ wb (Below.refl _ _) rfl
              · simp at ho
                subst ho
                have y0 : ac.tmps[38]?.getD undef = _ := hdep { on := 13, ground := .data } (by simp) rfl
                go_simp
                refine (IHJ.out wb (bstep hw hB2 hw.size) hmzj).mono ?_
                rintro e w' ⟨ds, rfl, hL, hb⟩
                exact hK _ w' hb ⟨ds, rfl, hL.weaken fun b hb => hb.imp id (fun h => Nat.le_trans hB1 h)⟩
              · simp at ho
                subst ho
                obtain ⟨ds, y1, hL⟩ := hdep { on := 14, ground := .data } (by simp) rfl
                obtain ⟨d0, d1, d2, d3, d4, d4l, d4c, d5, d5l, d5c, rfl⟩ := hL.six
                have y0 : ac.tmps[32]?.getD undef = _ := hdep { on := 7, ground := .data } (by simp) rfl
                have y1 : ac.tmps[39]?.getD undef = _ := y1
                go_simp
                exact hK _ wb (Below.refl _ _) ⟨#[.int .i64 d0, .bool d1, .int .i64 d2, .string d3, .slice d4 d4l d4c, .slice d5 d5l d5c], rfl, hL⟩
              · simp at ho
                subst ho
                obtain ⟨ds, y1, hL⟩ := hdep { on := 15, ground := .data } (by simp) rfl
                obtain ⟨d0, d1, d2, d3, d4, d4l, d4c, d5, d5l, d5c, rfl⟩ := hL.six
                have y1 : ac.tmps[40]?.getD undef = .agg #[.string m[j].1, .int .i64 d0, .bool d1, .int .i64 d2, .string d3, .slice d4 d4l d4c, .slice d5 d5l d5c] := y1
                go_simp
                exact hK _ _ ((Below.refl _ _).alloc (Nat.le_refl _) _) ⟨wb.heap.size, #[.int .i64 d0, .bool d1, .int .i64 d2, .string d3, .slice d4 d4l d4c, .slice d5 d5l d5c], rfl, (fun j' u hu => by have := lit_cells wb #[.string m[j].1, .int .i64 d0, .bool d1, .int .i64 d2, .string d3, .slice d4 d4l d4c, .slice d5 d5l d5c] 51 j' u hu; rwa [Addr.add_lit, Nat.zero_add] at this), hL.later ((Below.refl _ _).alloc (Nat.le_refl _) _), hB1, by simp⟩
              · simp at ho
                subst ho
                go_simp
                exact hK _ wb (Below.refl _ _) rfl
            case g8 =>
              intro o ac wb K' ho hA hB hG hdep hK
              obtain ⟨hB1, hB2, hB3⟩ := hB
              simp at ho
              subst ho
              have y0 : ac.tmps[26]?.getD undef = .slice al K.length cl' := hdep { on := 1, ground := .data } (by simp) rfl
              obtain ⟨g, ds, y1, hgc, hL, h1, h2⟩ := hdep { on := 16, ground := .data } (by simp) rfl
              obtain ⟨d0, d1, d2, d3, d4, d4l, d4c, d5, d5l, d5c, rfl⟩ := hL.six
              have y1 : ac.tmps[41]?.getD undef = .slice (some ⟨g, 0, none⟩) 1 1 := y1
              have hL2 : Lies wb (fun b => ((R b ∧ b < w0.heap.size) ∨ w.heap.size + 2 < b) ∧ b < wb.heap.size ∧ (Value.slice al K.length cl').ownBlock ≠ some b ∧ b ≠ w.heap.size + 2) (T.over T.nil m[j].2) #[.int .i64 d0, .bool d1, .int .i64 d2, .string d3, .slice d4 d4l d4c, .slice d5 d5l d5c] := hL.bound.weaken fun b hb => by
                obtain ⟨hb, hlt⟩ := hb
                rcases hb with h | h
                · exact ⟨.inl h, hlt, fun e => by have := hobK _ e; have := h.2; omega, by have := h.2; omega⟩
                · exact ⟨.inr (by omega), hlt, fun e => by have := hobK _ e; omega, by omega⟩
              refine wp_append_own rfl (.tmp 26) (.tmp 41) 23 rfl (w.heap.size + 2 + 1) 51 i0 _ 7 104 Tryz.underlying23 HI0.out HZ0.out HZ1.out HZ2.out (by rfl) (by decide) (.slice al K.length cl') K.length _ (by first | exact y0 | (simp [Act.eval]; exact y0) | (go_simp)) hG.own ⟨g, 0, none⟩ 1 1 (#[Value.string m[j].1, .int .i64 d0, .bool d1, .int .i64 d2, .string d3, .slice d4 d4l d4c, .slice d5 d5l d5c] : Array Value).toList (by first | exact y1 | (simp [Act.eval]; exact y1) | (go_simp)) rfl (fun j' u hu => by rw [Addr.add_lit, Nat.zero_add]; exact hgc j' u hu) (fun u hu => by
                simp at hu
                rcases hu with rfl | rfl | rfl | rfl | rfl | rfl | rfl <;> rfl) (by unfold maxLen; omega) (by omega) (by omega) ?_
              intro v5 w5 own5 hg5 hob5
              obtain ⟨a5, e5, rfl⟩ := row_form own5
              exact hK _ w5 ⟨hg5, hB1⟩ ⟨a5, e5, #[.int .i64 d0, .bool d1, .int .i64 d2, .string d3, .slice d4 d4l d4c, .slice d5 d5l d5c], rfl, hG.one hL2 hko own5 hg5 hob5⟩
            case g9 =>
              intro o ac wb K' ho hA hB hU hK
              obtain ⟨hB1, hB2, hB3⟩ := hB
              simp at ho
              subst ho
              have n2 := hB3 (w.heap.size + 2) hex (fun e => by have := (hobK _ e).1; omega)
              have k5 : wb.cell? ⟨w.heap.size + 1 + 1, 5, none⟩ = some (.slice al K.length cl') := (World.cell?_of_block n2).trans xo5
              have kf : ∀ j, wb.frozen? ⟨w.heap.size + 1 + 1, j, none⟩ = false := fun j => (World.frozen?_of_block n2).trans (FZ.out j)
              obtain ⟨a7, e7, ds, y17, hO⟩ := hU 17 (by omega)
              have y17 : ac.tmps[42]?.getD undef = _ := y17
              have y18 : ac.tmps[43]?.getD undef = _ := hU 18 (by omega)
              have B5 : BoxA wb (w.heap.size + 2) (.int .i64 5) (.bool false) (.int .i64 0) (.string ⟨#[]⟩) (.slice none 0 0) (.slice al K.length cl') := ⟨(World.cell?_of_block n2).trans xo0, (World.cell?_of_block n2).trans xo1, (World.cell?_of_block n2).trans xo2, (World.cell?_of_block n2).trans xo3, (World.cell?_of_block n2).trans xo4, k5⟩
              go_simp
              refine hK _ ⟨a7, e7, ds, hO.keep (fun b _ hne => setRow_heap (w.heap.size + 2) [.slice a7 (K.length + 1) e7] wb 5 b hne) (Nat.le_of_eq (setRow_size (w.heap.size + 2) [.slice a7 (K.length + 1) e7] wb 5).symm), setRow_boxA (.slice a7 (K.length + 1) e7) B5, fun j => (setRow_frozen (w.heap.size + 2) [.slice a7 (K.length + 1) e7] wb 5 _).trans (kf j), fun b hb hne => (setRow_heap (w.heap.size + 2) [.slice a7 (K.length + 1) e7] wb 5 b hne).trans ?_, ?_, setRow_below (w.heap.size + 2) (by omega) [.slice a7 (K.length + 1) e7] wb 5 hB2⟩
              · have hv3 := HSV.out
                exact (hB3 b (by omega) (fun e => by have := (hobK _ e).1; omega)).trans (KP.out b hb hne)
              · have := setRow_size (w.heap.size + 2) [.slice a7 (K.length + 1) e7] wb 5
                exact Nat.le_trans (by omega : v.heap.size ≤ wb.heap.size) (Nat.le_of_eq this.symm)
            case g10 =>
              intro ac wn hA ⟨a7, e7, ds, HKn, BOn, FZn, KPn, SZn, HBn⟩
              have hlen : (K ++ [(m[j].1, T.over T.nil m[j].2, ds)]).length = K.length + 1 := by rw [List.length_append]; rfl
              have HE3 := Lib.hid (HE2.out ds)
              obtain ⟨K6, eK6⟩ : ∃ K6, K6 = K ++ [(m[j].1, T.over T.nil m[j].2, ds)] := ⟨_, rfl⟩
              rw [← eK6] at HKn HE3 hlen
              rw [← hlen] at HKn BOn
              have hs : slots 19 (fun i => 25 + i) = [25, 26, 27, 28, 29, 30, 31, 32, 33, 34, 35, 36, 37, 38, 39, 40, 41, 42, 43] := by rfl
              rw [hs] at hA
              have hac := hA.act (fun t ht => by
                have h8 : t = 25 ∨ t = 26 ∨ t = 27 ∨ t = 28 ∨ t = 29 ∨ t = 30 ∨ t = 31 ∨ t = 32 ∨ t = 33 ∨ t = 34 ∨ t = 35 ∨ t = 36 ∨ t = 37 ∨ t = 38 ∨ t = 39 ∨ t = 40 ∨ t = 41 ∨ t = 42 ∨ t = 43 := by simpa using ht
                rcases h8 with rfl | rfl | rfl | rfl | rfl | rfl | rfl | rfl | rfl | rfl | rfl | rfl | rfl | rfl | rfl | rfl | rfl | rfl | rfl <;> exact Nat.lt_of_lt_of_le (by decide : _ < 45) (Nat.le_refl 45))
              rw [List.foldl_cons, List.foldl_cons, List.foldl_cons, List.foldl_cons, List.foldl_cons, List.foldl_cons, List.foldl_cons, List.foldl_cons, List.foldl_cons, List.foldl_cons, List.foldl_cons, List.foldl_cons, List.foldl_cons, List.foldl_cons, List.foldl_cons, List.foldl_cons, List.foldl_cons, List.foldl_cons, List.foldl_cons, List.foldl_nil] at hac
              generalize sl ac 25 = x25 at hac
              generalize sl ac 26 = x26 at hac
              generalize sl ac 27 = x27 at hac
              generalize sl ac 28 = x28 at hac
              generalize sl ac 29 = x29 at hac
              generalize sl ac 30 = x30 at hac
              generalize sl ac 31 = x31 at hac
              generalize sl ac 32 = x32 at hac
              generalize sl ac 33 = x33 at hac
              generalize sl ac 34 = x34 at hac
              generalize sl ac 35 = x35 at hac
              generalize sl ac 36 = x36 at hac
              generalize sl ac 37 = x37 at hac
              generalize sl ac 38 = x38 at hac
              generalize sl ac 39 = x39 at hac
              generalize sl ac 40 = x40 at hac
              generalize sl ac 41 = x41 at hac
              generalize sl ac 42 = x42 at hac
              generalize sl ac 43 = x43 at hac
              clear hA hs eK6 HE2 HK HE BO FZ KP HB hbl hexK hobK hex xo0 xo1 xo2 xo3 xo4 xo5 r0 r1 r2 r3 r4 r5 r6 xk5
              subst hac
              simp only [Act.put, List.setIfInBounds_toArray, List.set_cons_succ, List.set_cons_zero]
              go_wp2_with fail
              go_roundw
              case rel => exact ⟨j + 1, a7, e7, K6, by omega, by go_num, HKn, HE3, by omega, BOn, FZn, KPn, SZn, HBn⟩
              case measure => simp [intOf]; omega
        · obtain rfl : j = m.length := by omega
          have hkp := KP.out
          have xk5 : wr.cell? ⟨w.heap.size, 5, none⟩ = some (.slice ma m.length mc) := (World.cell?_of_block (hkp w.heap.size (by omega) (by omega))).trans c5'
          have HF : Hid (K.map strip = overR [] m) := by
            show _ = _
            rw [← HE.out, List.drop_length, overR_nil, List.append_nil]
          have hsz := SZ
          have z2 : ∀ j, wr.cell? ⟨w.heap.size + 1, j, none⟩ = (#[.int .i64 0, .bool false, .int .i64 0, .string ⟨#[]⟩, .slice none 0 0, .slice none 0 0] : Array Value)[j]? := fun j => (World.cell?_of_block (hkp (w.heap.size + 1) (by omega) (by omega))).trans (Q1.out j)
          have z3 : ∀ j, wr.frozen? ⟨w.heap.size + 1, j, none⟩ = false := fun j => (World.frozen?_of_block (hkp (w.heap.size + 1) (by omega) (by omega))).trans (Q2.out j)
          have Z2 := Lib.hid z2
          obtain ⟨xo0, xo1, xo2, xo3, xo4, xo5⟩ := BO.out
          obtain ⟨a9, e9, cm9, ev, hS9⟩ := HK.out.done (by omega)
          obtain ⟨rfl, rfl⟩ : al = a9 ∧ cl' = e9 := by simpa using ev
          rw [HF.out] at hS9
          have HS9 := Lib.hid hS9
          have HLE : Hid ((K).length = (overR [] m).length) := by
            show _ = _
            rw [← HF.out, List.length_map]
          clear ev hS9 hkp
          go_wp2_with fail
          refine ret_cells wr (w.heap.size + 1) [.int .i64 5, .bool false, .int .i64 0, .string ⟨#[]⟩, .slice none 0 0, .slice al (K).length cl'] rfl Tryz.results33 rfl rfl DD.out HU.out Tryz.sizeV (fun i hi => ⟨_, (Z2.out i).trans (Array.getElem?_eq_getElem (show i < 6 from hi))⟩) ?_
          rw [HLE.out]
          have hw0 := hw.size
          exact ⟨_, rfl, Lies.of_slices (m := overR [] m) wf5 wf0 empty_size (empty_sliceV _ _) ((HS9.out.keepB (fun b hb _ => setRow_heap _ [.int .i64 5, .bool false, .int .i64 0, .string ⟨#[]⟩, .slice none 0 0, .slice al (overR [] m).length cl'] _ _ _ (by
            obtain ⟨hb, _⟩ := hb
            rcases hb with (h | h) | h
            · have := h.2; omega
            · omega
            · omega))).weaken (fun b hb => by
            rcases hb.1 with (h | h) | h
            · exact .inl h
            · exact .inr (by omega)
            · exact .inr (by omega))), setRow_below _ (by omega) [.int .i64 5, .bool false, .int .i64 0, .string ⟨#[]⟩, .slice none 0 0, .slice al (overR [] m).length cl'] _ _ HB.out⟩

end Go.Proofs.YtlniokpekcoodaaGreatDoor
