/-
  The reference's Drop, walked.
-/
import Derived.Test.YtfhonjjhladddaaRPutW
import Derived.Test.YtfhonjjhladddaaGood
set_option linter.unusedVariables false
set_option linter.unusedSimpArgs false
namespace Go.Proofs.Ytfhonjjhladddaa
open Go.RowKit Go.Sort

/-- The reference's Drop. -/
def rdropT (key : ByteArray) : T → T
  | .mk k b n s l m => .mk k b n s l (dropR key m)

theorem dropR_next (key : ByteArray) (m : Prs) (j : Nat) (hj : j < m.length) : dropR key (m.drop j) = (if m[j].1 = key then [] else [m[j]]) ++ dropR key (m.drop (j + 1)) := by
  rw [drop_cons m j hj]
  unfold dropR
  by_cases h : m[j].1 = key
  · rw [List.filter_cons_of_neg (by simp [h]), if_pos h, List.nil_append]
  · rw [List.filter_cons_of_pos (by simp [h]), if_neg h, List.singleton_append]

theorem SliceV.boundV {w : World} {R : Nat → Prop} {ps : List T} {a : Option Addr} {cap : Nat} {cm : Nat → Array Value} (h : SliceV w R ps a cap cm) : SliceV w (fun b => R b ∧ b < w.heap.size) ps a cap cm := by
  refine ⟨⟨h.hdr.le, h.hdr.big, h.hdr.none, fun hp => ?_, h.hdr.max⟩, h.rows, fun i hi => (h.each i hi).bound⟩
  obtain ⟨b, off, e, hR⟩ := h.hdr.some hp
  refine ⟨b, off, e, hR, ?_⟩
  have hz := (h.each 0 hp).size6
  have := h.rows 0 hp b off e 0 (by omega)
  exact World.block_lt_of_cell? _ _ this

set_option maxRecDepth 100000 in
set_option maxHeartbeats 4000000 in
theorem rDrop_any {w0 : World} {R1 : Nat → Prop} {t : T} {cs : Array Value} (h1 : Lies w0 R1 t cs) (key : ByteArray) (hn1 : t.map.length ≤ 1000000) (w : World) (hw : Below w0.heap.size w0 w) :
    Calls Try.prog 14 #[.agg cs, .string key] w (RPutIn w0 R1 w (rdropT key t)) := by
  cases h1 with
  | mk k b n s l m la lc ma mc cl cm hk hn hs hl hm rl rm ks il im =>
    have HM : Hid (SliceP w0 R1 m ma mc cm) := ⟨hm, rm, ks, im⟩
    have HLL : Hid (SliceV w0 R1 l la lc cl) := ⟨hl, rl, il⟩
    have HWK := Lib.hid hk
    have HWN := Lib.hid hn
    have HWS := Lib.hid hs
    have hle := hm.le
    have hbig := hm.big
    have hmap : (T.mk k b n s l m).map = m := rfl
    rw [hmap] at hn1
    obtain ⟨i0, hi, hz0, hz1, hz2⟩ := info_parts Try.infoP
    have HI0 := Lib.hid hi
    have HZ0 := Lib.hid hz0
    have HZ1 := Lib.hid hz1
    have HZ2 := Lib.hid hz2
    have A2 := Lib.hid (((Below.refl w.heap.size w).alloc (Nat.le_refl _) (.cells #[.int .i64 k, .bool b, .int .i64 n, .string s, .slice la l.length lc, .slice ma m.length mc] 25)).alloc (by simp) (.cells #[.int .i64 0, .bool false, .int .i64 0, .string ⟨#[]⟩, .slice none 0 0, .slice none 0 0] 25))
    have B3 := (Below.refl ((w.alloc (.cells #[.int .i64 k, .bool b, .int .i64 n, .string s, .slice la l.length lc, .slice ma m.length mc] 25)).alloc (.cells #[.int .i64 0, .bool false, .int .i64 0, .string ⟨#[]⟩, .slice none 0 0, .slice none 0 0] 25)).heap.size ((w.alloc (.cells #[.int .i64 k, .bool b, .int .i64 n, .string s, .slice la l.length lc, .slice ma m.length mc] 25)).alloc (.cells #[.int .i64 0, .bool false, .int .i64 0, .string ⟨#[]⟩, .slice none 0 0, .slice none 0 0] 25))).alloc (Nat.le_refl _) (.cells #[.int .i64 k, .bool b, .int .i64 n, .string s, .slice la l.length lc, .slice none 0 0] 25)
    have e2 : ((w.alloc (.cells #[.int .i64 k, .bool b, .int .i64 n, .string s, .slice la l.length lc, .slice ma m.length mc] 25)).alloc (.cells #[.int .i64 0, .bool false, .int .i64 0, .string ⟨#[]⟩, .slice none 0 0, .slice none 0 0] 25)).heap.size = w.heap.size + 1 + 1 := by simp
    have q0 : ∀ j, (((w.alloc (.cells #[.int .i64 k, .bool b, .int .i64 n, .string s, .slice la l.length lc, .slice ma m.length mc] 25)).alloc (.cells #[.int .i64 0, .bool false, .int .i64 0, .string ⟨#[]⟩, .slice none 0 0, .slice none 0 0] 25)).alloc (.cells #[.int .i64 k, .bool b, .int .i64 n, .string s, .slice la l.length lc, .slice none 0 0] 25)).cell? ⟨w.heap.size, j, none⟩ = (#[.int .i64 k, .bool b, .int .i64 n, .string s, .slice la l.length lc, .slice ma m.length mc] : Array Value)[j]? := fun j => by
      rw [B3.cell (p := ⟨w.heap.size, j, none⟩) (by rw [e2]; show w.heap.size < _; omega)]
      have := ((Below.refl (w.heap.size + 1) (w.alloc (.cells #[.int .i64 k, .bool b, .int .i64 n, .string s, .slice la l.length lc, .slice ma m.length mc] 25))).alloc (by simp) (.cells #[.int .i64 0, .bool false, .int .i64 0, .string ⟨#[]⟩, .slice none 0 0, .slice none 0 0] 25)).cell (p := ⟨w.heap.size, j, none⟩) (Nat.lt_succ_self _)
      rw [this, World.cell?_alloc_new]
    have q2 : ∀ j, (((w.alloc (.cells #[.int .i64 k, .bool b, .int .i64 n, .string s, .slice la l.length lc, .slice ma m.length mc] 25)).alloc (.cells #[.int .i64 0, .bool false, .int .i64 0, .string ⟨#[]⟩, .slice none 0 0, .slice none 0 0] 25)).alloc (.cells #[.int .i64 k, .bool b, .int .i64 n, .string s, .slice la l.length lc, .slice none 0 0] 25)).cell? ⟨w.heap.size + 1, j, none⟩ = (#[.int .i64 0, .bool false, .int .i64 0, .string ⟨#[]⟩, .slice none 0 0, .slice none 0 0] : Array Value)[j]? := fun j => by
      rw [B3.cell (p := ⟨w.heap.size + 1, j, none⟩) (by rw [e2]; show w.heap.size + 1 < _; omega)]
      have h := World.cell?_alloc_new (w.alloc (.cells #[.int .i64 k, .bool b, .int .i64 n, .string s, .slice la l.length lc, .slice ma m.length mc] 25)) #[.int .i64 0, .bool false, .int .i64 0, .string ⟨#[]⟩, .slice none 0 0, .slice none 0 0] 25 j
      rw [World.size_alloc] at h
      exact h
    have q3 : ∀ j, (((w.alloc (.cells #[.int .i64 k, .bool b, .int .i64 n, .string s, .slice la l.length lc, .slice ma m.length mc] 25)).alloc (.cells #[.int .i64 0, .bool false, .int .i64 0, .string ⟨#[]⟩, .slice none 0 0, .slice none 0 0] 25)).alloc (.cells #[.int .i64 k, .bool b, .int .i64 n, .string s, .slice la l.length lc, .slice none 0 0] 25)).frozen? ⟨w.heap.size + 1, j, none⟩ = false := fun j => by
      rw [B3.frozen (p := ⟨w.heap.size + 1, j, none⟩) (by rw [e2]; show w.heap.size + 1 < _; omega)]
      have h := World.frozen?_alloc_new (w.alloc (.cells #[.int .i64 k, .bool b, .int .i64 n, .string s, .slice la l.length lc, .slice ma m.length mc] 25)) #[.int .i64 0, .bool false, .int .i64 0, .string ⟨#[]⟩, .slice none 0 0, .slice none 0 0] 25 j
      rw [World.size_alloc] at h
      exact h
    have Q0 := Lib.hid q0
    have Q2 := Lib.hid q2
    have Q3 := Lib.hid q3
    have BO := BoxA.new ((w.alloc (.cells #[.int .i64 k, .bool b, .int .i64 n, .string s, .slice la l.length lc, .slice ma m.length mc] 25)).alloc (.cells #[.int .i64 0, .bool false, .int .i64 0, .string ⟨#[]⟩, .slice none 0 0, .slice none 0 0] 25)) (.int .i64 k) (.bool b) (.int .i64 n) (.string s) (.slice la l.length lc) (.slice none 0 0) 25
    have FO := fun j => World.frozen?_alloc_new ((w.alloc (.cells #[.int .i64 k, .bool b, .int .i64 n, .string s, .slice la l.length lc, .slice ma m.length mc] 25)).alloc (.cells #[.int .i64 0, .bool false, .int .i64 0, .string ⟨#[]⟩, .slice none 0 0, .slice none 0 0] 25)) #[.int .i64 k, .bool b, .int .i64 n, .string s, .slice la l.length lc, .slice none 0 0] 25 j
    rw [e2] at BO FO
    have BO0 := Lib.hid BO
    have FO0 := Lib.hid FO
    have HSV : Hid ((((w.alloc (.cells #[.int .i64 k, .bool b, .int .i64 n, .string s, .slice la l.length lc, .slice ma m.length mc] 25)).alloc (.cells #[.int .i64 0, .bool false, .int .i64 0, .string ⟨#[]⟩, .slice none 0 0, .slice none 0 0] 25)).alloc (.cells #[.int .i64 k, .bool b, .int .i64 n, .string s, .slice la l.length lc, .slice none 0 0] 25)).heap.size = w.heap.size + 3) := by show _ = _; simp
    have AV := Lib.hid (A2.out.alloc (by simp; omega) (.cells #[.int .i64 k, .bool b, .int .i64 n, .string s, .slice la l.length lc, .slice none 0 0] 25))
    clear hk hn hs hl hm rl rm ks il im hmap hi hz0 hz1 hz2 q0 q2 q3 e2 BO FO B3
    obtain ⟨dd, hu, hdd⟩ := Try.structV
    have DD := Lib.hid hdd
    have HU := Lib.hid hu
    clear hu hdd
    go_enter Try.func14, Try.ntmps14
    go_wp2_with fail
    generalize hv : (((w.alloc (.cells #[.int .i64 k, .bool b, .int .i64 n, .string s, .slice la l.length lc, .slice ma m.length mc] 25)).alloc (.cells #[.int .i64 0, .bool false, .int .i64 0, .string ⟨#[]⟩, .slice none 0 0, .slice none 0 0] 25)).alloc (.cells #[.int .i64 k, .bool b, .int .i64 n, .string s, .slice la l.length lc, .slice none 0 0] 25)) = v at *
    clear hv
    have hvs := HSV.out
    have c5' : v.cell? ⟨w.heap.size, 5, none⟩ = some (.slice ma m.length mc) := Q0.out 5
    go_loopw [6] (fun v9 wr => ∃ (j : Nat) (al : Option Addr) (cl' : Nat) (K : List Q), j ≤ m.length ∧ v9 = .int .i64 j ∧ Hid (OwnW (fun b => R1 b ∧ b < w0.heap.size) (w.heap.size + 2) wr (.slice al K.length cl') K) ∧ Hid (K.map strip ++ dropR key (m.drop j) = dropR key m) ∧ K.length ≤ j ∧ Hid (BoxA wr (w.heap.size + 1 + 1) (.int .i64 k) (.bool b) (.int .i64 n) (.string s) (.slice la l.length lc) (.slice al K.length cl')) ∧ Hid (∀ j, wr.frozen? ⟨w.heap.size + 1 + 1, j, none⟩ = false) ∧ Hid (∀ b, b < v.heap.size → b ≠ w.heap.size + 2 → wr.heap[b]? = v.heap[b]?) ∧ v.heap.size ≤ wr.heap.size ∧ Hid (Below w.heap.size w wr)) (fun v9 _ => m.length - (intOf v9).toNat)
    case atStart => exact ⟨0, none, 0, [], by omega, rfl, OwnW.nil _ _ _, by show _ = _; simp, by simp, BO0, FO0, fun _ _ _ => rfl, Nat.le_refl _, AV⟩
    case round =>
      obtain ⟨j, al, cl', K, hj, rfl, HK, HE, hKl, BO, FZ, KP, SZ, HB⟩ := hrel
      by_cases hjl : j < m.length
      · obtain ⟨bl, ol, hma, _⟩ := HM.out.hdr.some (by omega)
        subst hma
        have HN := Lib.hid (dropR_next key m j hjl)
        have hkp := KP.out
        have xk5 : wr.cell? ⟨w.heap.size, 5, none⟩ = some (.slice (some ⟨bl, ol, none⟩) m.length mc) := (World.cell?_of_block (hkp w.heap.size (by omega) (by omega))).trans c5'
        have hWw := bstep hw HB.out hw.size
        obtain ⟨bl2, ol2, c0, c1, c2, c3, c4, c4l, c4c, c5, c5l, c5c, e2, hc, r0, r1, r2, r3, r4, r5, r6⟩ := openM hWw HM.out.hdr HM.out.rows hjl (HM.out.each j hjl)
        obtain ⟨rfl, rfl⟩ : bl = bl2 ∧ ol = ol2 := by simpa using e2
        have hLx := HM.out.each j hjl
        rw [hc] at hLx
        have HLX := Lib.hid (hLx.bound.later hWw)
        clear hc hLx hkp e2
        by_cases he : m[j].1 = key
        · have f1 : (m[j].1.toList == key.toList) = true := by rw [he]; simp
          have HE2 : Hid (K.map strip ++ dropR key (m.drop (j + 1)) = dropR key m) := by
            show _ = _
            rw [← HE.out, HN.out, if_pos he]
            rfl
          clear he hWw
          go_wp2_with fail
          go_roundw
          case rel => exact ⟨j + 1, al, cl', K, by omega, by go_num, HK, HE2, by omega, BO, FZ, KP, SZ, HB⟩
          case measure => simp [intOf]; omega
        · have f1 := str_ne he
          have HE2 : Hid ((K ++ [(m[j].1, m[j].2, (#[.int .i64 c0, .bool c1, .int .i64 c2, .string c3, .slice c4 c4l c4c, .slice c5 c5l c5c] : Array Value))]).map strip ++ dropR key (m.drop (j + 1)) = dropR key m) := by
            show _ = _
            rw [← HE.out, HN.out, if_neg he, List.map_append, List.append_assoc]
            simp [strip]
          clear he
          obtain ⟨xo0, xo1, xo2, xo3, xo4, xo5⟩ := BO.out
          have hko := HM.out.keys j hjl
          go_upto_region 7 with fail
          have hZ := Lib.hid ((Below.refl wr.heap.size wr).alloc (Nat.le_refl _) (.cells #[.string m[j].1, .int .i64 c0, .bool c1, .int .i64 c2, .string c3, .slice c4 c4l c4c, .slice c5 c5l c5c] 36))
          have HKa := Lib.hid (HK.out.later hZ.out)
          have hex := World.block_lt_of_cell? _ _ xo5
          have HKd := Lib.hid (HKa.out.later (Below.refl _ _).drew)
          have hexK : (Value.slice al K.length cl').ownBlock ≠ some (w.heap.size + 2) := fun e => by have := (HK.out.block e).1; omega
          go_region_law (
            refine step_append_own rfl (.tmp 25) (.tmp 31) 23 rfl (w.heap.size + 2 + 1) 36 i0 _ 7 104 Try.underlying23 HI0.out HZ0.out HZ1.out HZ2.out (by rfl) (by decide) (.slice al K.length cl') K.length _ rfl (by first | exact HKd.out.own | exact HKa.out.own) ⟨wr.heap.size, 0, none⟩ 1 1 [.string m[j].1, .int .i64 c0, .bool c1, .int .i64 c2, .string c3, .slice c4 c4l c4c, .slice c5 c5l c5c] rfl rfl (fun i u hu => lit_cells wr _ _ i u hu) (fun u hu => by
              simp at hu
              rcases hu with rfl | rfl | rfl | rfl | rfl | rfl | rfl <;> rfl) (by unfold maxLen; omega) (by omega) (by simp; omega) ?_
            intro v5 w5 own5 hg5 hob5
            obtain ⟨a5, e5, rfl⟩ := row_form own5
            have OWN5 := Lib.hid own5
            have HOB5 := Lib.hid hob5
            have hb5 : w5.heap[w.heap.size + 2]? = wr.heap[w.heap.size + 2]? := (hg5.block (w.heap.size + 2) (by simp; omega) (fun e => hexK e.symm)).trans (Below.heap_alloc _ _ _ hex)
            have xs5 : w5.cell? ⟨w.heap.size + 1 + 1, 5, none⟩ = some (.slice al K.length cl') := (World.cell?_of_block hb5).trans xo5
            have xf5 : ∀ j, w5.frozen? ⟨w.heap.size + 1 + 1, j, none⟩ = false := fun j => (World.frozen?_of_block hb5).trans (FZ.out j)
            clear own5 hob5)
          all_goals
            have hlen : (K ++ [(m[j].1, m[j].2, (#[.int .i64 c0, .bool c1, .int .i64 c2, .string c3, .slice c4 c4l c4c, .slice c5 c5l c5c] : Array Value))]).length = K.length + 1 := by rw [List.length_append]; rfl
            have HLN := Lib.hid hlen
            have hg5 := undrewG hg5
            have hs5 := hg5.size
            have hsa : wr.heap.size + 1 ≤ w5.heap.size := by simpa using hs5
            have hobK : ∀ g, (Value.slice al K.length cl').ownBlock = some g → w.heap.size + 2 < g := fun g hg => (HK.out.block hg).1
            have HLa : Lies (wr.alloc (.cells #[.string m[j].1, .int .i64 c0, .bool c1, .int .i64 c2, .string c3, .slice c4 c4l c4c, .slice c5 c5l c5c] 36)) (fun b => (R1 b ∧ b < w0.heap.size) ∧ b < (wr.alloc (.cells #[.string m[j].1, .int .i64 c0, .bool c1, .int .i64 c2, .string c3, .slice c4 c4l c4c, .slice c5 c5l c5c] 36)).heap.size ∧ (Value.slice al K.length cl').ownBlock ≠ some b ∧ b ≠ w.heap.size + 2) m[j].2 #[.int .i64 c0, .bool c1, .int .i64 c2, .string c3, .slice c4 c4l c4c, .slice c5 c5l c5c] :=
              (HLX.out.later hZ.out).weaken fun b hb => by
                have h0 := hw.size
                have h1 := hb.2
                exact ⟨⟨hb.1, h1⟩, by simp; omega, fun e => by have := hobK _ e; omega, by omega⟩
            have HK5 := HKa.out.one HLa hko (OWN5.out) hg5 (HOB5.out.imp id (fun h => h.trans (by simp)))
            have HKn : Hid (OwnW (fun b => R1 b ∧ b < w0.heap.size) (w.heap.size + 2) (setRow w5 (w.heap.size + 2) 5 [.slice a5 (K.length + 1) e5]) (.slice a5 (K ++ [(m[j].1, m[j].2, (#[.int .i64 c0, .bool c1, .int .i64 c2, .string c3, .slice c4 c4l c4c, .slice c5 c5l c5c] : Array Value))]).length e5) (K ++ [(m[j].1, m[j].2, (#[.int .i64 c0, .bool c1, .int .i64 c2, .string c3, .slice c4 c4l c4c, .slice c5 c5l c5c] : Array Value))])) := by
              show OwnW _ _ _ _ _
              rw [hlen]
              exact HK5.keep (fun b _ hne => setRow_heap _ _ _ _ _ hne) (by rw [setRow_size]; exact Nat.le_refl _)
            have B5 : BoxA w5 (w.heap.size + 2) (.int .i64 k) (.bool b) (.int .i64 n) (.string s) (.slice la l.length lc) (.slice al K.length cl') := ⟨(World.cell?_of_block hb5).trans xo0, (World.cell?_of_block hb5).trans xo1, (World.cell?_of_block hb5).trans xo2, (World.cell?_of_block hb5).trans xo3, (World.cell?_of_block hb5).trans xo4, xs5⟩
            have BOn : Hid (BoxA (setRow w5 (w.heap.size + 2) 5 [.slice a5 (K.length + 1) e5]) (w.heap.size + 1 + 1) (.int .i64 k) (.bool b) (.int .i64 n) (.string s) (.slice la l.length lc) (.slice a5 (K ++ [(m[j].1, m[j].2, (#[.int .i64 c0, .bool c1, .int .i64 c2, .string c3, .slice c4 c4l c4c, .slice c5 c5l c5c] : Array Value))]).length e5)) := by
              show BoxA _ _ _ _ _ _ _ _
              rw [hlen]
              exact setRow_boxA (.slice a5 (K.length + 1) e5) B5
            have FZn : Hid (∀ j, (setRow w5 (w.heap.size + 2) 5 [.slice a5 (K.length + 1) e5]).frozen? ⟨w.heap.size + 1 + 1, j, none⟩ = false) := fun j => (setRow_frozen _ _ _ _ _).trans (xf5 j)
            have KPn : Hid (∀ b, b < v.heap.size → b ≠ w.heap.size + 2 → (setRow w5 (w.heap.size + 2) 5 [.slice a5 (K.length + 1) e5]).heap[b]? = v.heap[b]?) := fun b hb hne =>
              (setRow_heap _ _ _ _ _ hne).trans ((hg5.block b (by simp; omega) (fun e => by have := hobK _ e.symm; omega)).trans ((Below.heap_alloc _ _ _ (by omega)).trans (KP.out b hb hne)))
            have SZn : v.heap.size ≤ (setRow w5 (w.heap.size + 2) 5 [.slice a5 (K.length + 1) e5]).heap.size := by rw [setRow_size]; omega
            have HBn : Hid (Below w.heap.size w (setRow w5 (w.heap.size + 2) 5 [.slice a5 (K.length + 1) e5])) := setRow_below _ (by omega) _ _ _ ((HB.out.alloc (by omega) (.cells #[.string m[j].1, .int .i64 c0, .bool c1, .int .i64 c2, .string c3, .slice c4 c4l c4c, .slice c5 c5l c5c] 36)).grown hg5 (by simp; omega) (fun g hg => by have := hobK g hg; omega))
            clear hs5 hsa HLa HK5 B5 hb5 hg5 xs5 xf5 r0 r1 r2 r3 r4 r5 r6 xk5 hWw
            go_wp2_with fail
            go_roundw
            case rel => first
              | exact ⟨j + 1, a5, e5, K ++ [(m[j].1, m[j].2, (#[.int .i64 c0, .bool c1, .int .i64 c2, .string c3, .slice c4 c4l c4c, .slice c5 c5l c5c] : Array Value))], by omega, by go_num, HKn, HE2, by rw [HLN.out]; omega, BOn, FZn, KPn, SZn, HBn⟩
              | exact ⟨j + 1, a5, e5, K ++ [(m[j].1, m[j].2, (#[.int .i64 c0, .bool c1, .int .i64 c2, .string c3, .slice c4 c4l c4c, .slice c5 c5l c5c] : Array Value))], by omega, by go_num, HKn.out.later (Below.refl _ _).drew, HE2, by rw [HLN.out]; omega, BOn, FZn, KPn, SZn, HBn.out.drew⟩
            case measure => simp [intOf]; omega
      · obtain rfl : j = m.length := by omega
        have hkp := KP.out
        have hsz := SZ
        have xk5 : wr.cell? ⟨w.heap.size, 5, none⟩ = some (.slice ma m.length mc) := (World.cell?_of_block (hkp w.heap.size (by omega) (by omega))).trans c5'
        have HF : Hid (K.map strip = dropR key m) := by
          show _ = _
          rw [← HE.out, List.drop_length]
          show _ = _ ++ []
          rw [List.append_nil]
        have z2 : ∀ j, wr.cell? ⟨w.heap.size + 1, j, none⟩ = (#[.int .i64 0, .bool false, .int .i64 0, .string ⟨#[]⟩, .slice none 0 0, .slice none 0 0] : Array Value)[j]? := fun j => (World.cell?_of_block (hkp (w.heap.size + 1) (by omega) (by omega))).trans (Q2.out j)
        have z3 : ∀ j, wr.frozen? ⟨w.heap.size + 1, j, none⟩ = false := fun j => (World.frozen?_of_block (hkp (w.heap.size + 1) (by omega) (by omega))).trans (Q3.out j)
        have Z2 := Lib.hid z2
        obtain ⟨xo0, xo1, xo2, xo3, xo4, xo5⟩ := BO.out
        obtain ⟨a9, e9, cm9, ev, hS9⟩ := HK.out.done (by omega)
        obtain ⟨rfl, rfl⟩ : al = a9 ∧ cl' = e9 := by simpa using ev
        rw [HF.out] at hS9
        have HS9 := Lib.hid hS9
        have HLE : Hid (K.length = (dropR key m).length) := by
          show _ = _
          rw [← HF.out, List.length_map]
        have HLW : Hid (SliceV wr (fun b => R1 b ∧ b < w0.heap.size) l la lc cl) := HLL.out.boundV.later (bstep hw HB.out hw.size)
        clear ev hS9 hkp
        go_wp2_with fail
        refine ret_cells wr (w.heap.size + 1) [.int .i64 k, .bool b, .int .i64 n, .string s, .slice la l.length lc, .slice al K.length cl'] rfl Try.results14 rfl rfl DD.out HU.out Try.sizeV (fun i hi => ⟨_, (Z2.out i).trans (Array.getElem?_eq_getElem (show i < 6 from hi))⟩) ?_
        rw [HLE.out]
        have hw0 := hw.size
        exact ⟨_, rfl, Lies.of_slices (m := dropR key m) HWK.out HWN.out HWS.out ((HLW.out.keepB (fun q hb _ => setRow_heap _ [.int .i64 k, .bool b, .int .i64 n, .string s, .slice la l.length lc, .slice al (dropR key m).length cl'] _ _ _ (by have := hb.2; omega))).weaken (fun q hb => .inl hb)) ((HS9.out.keepB (fun q hb _ => setRow_heap _ [.int .i64 k, .bool b, .int .i64 n, .string s, .slice la l.length lc, .slice al (dropR key m).length cl'] _ _ _ (by rcases hb.1 with h | h; (have := h.2; omega); omega))).weaken (fun q hb => by
          rcases hb.1 with h | h
          · exact .inl h
          · exact .inr (by omega))), setRow_below _ (by omega) [.int .i64 k, .bool b, .int .i64 n, .string s, .slice la l.length lc, .slice al (dropR key m).length cl'] _ _ HB.out⟩

end Go.Proofs.Ytfhonjjhladddaa
