/-
  The reference's Diff, of two stripped maps.
-/
import Derived.Test.YtfhonjjhladddaaRDiffP
import Derived.Test.YtfhonjjhladddaaRAll
import Derived.Test.YtfhonjjhladddaaSpecsL

set_option linter.unusedVariables false
set_option linter.unusedSimpArgs false
namespace Go.Proofs.Ytfhonjjhladddaa
open Go.RowKit Go.Sort

set_option maxRecDepth 100000 in
set_option maxHeartbeats 16000000 in
theorem rDiff_any {w0 : World} {R2 : Nat → Prop} {u : T} {ds : Array Value} (h2 : Lies w0 R2 u ds) : ∀ {w1 : World} {R1 : Nat → Prop} {t : T} {cs : Array Value}, Below w0.heap.size w0 w1 → Lies w1 R1 t cs → ∀ (w : World), Below w1.heap.size w1 w → Str t → Str u → t.size ≤ 400000 → u.size ≤ 400000 → Calls Try.prog 25 #[.agg cs, .agg ds] w (RPutIn w1 (fun b => (R1 b ∨ (R2 b ∧ b < w0.heap.size))) w (T.diff t u)) := by
  induction h2 with
  | mk k b n s l m la lc ma mc cl cm hk hn hs hl hm rl rm ks il im ihl ihm =>
    intro w1 R1 t cs h01 ht w hw hpt hpu hts hus
    have HM : Hid (SliceP w0 R2 m ma mc cm) := ⟨hm, rm, ks, im⟩
    have HU0 := Lies.mk (w := w0) k b n s l m la lc ma mc cl cm hk hn hs hl hm rl rm ks il im
    have HU2 := Lib.hid (HU0.bound.later h01)
    have IH := Lib.hid ihm
    have hle := hm.le
    have hbig := hm.big
    have hml : m.length ≤ 400000 := by
      have h1 := len_le_sumL (fun p : ByteArray × T => p.2.size) m (fun q _ => size_posL q.2)
      rw [T.size_mk] at hus
      omega
    have hmz : Hid (∀ i (hi : i < m.length), m[i].2.size ≤ 400000) := fun i hi => by
      have h1 := le_sum (List.mem_map.2 ⟨m[i], List.getElem_mem hi, rfl⟩ : m[i].2.size ∈ m.map fun p => p.2.size)
      rw [T.size_mk] at hus
      omega
    obtain rfl : k = 5 := hpu.kind
    have hum : (T.mk 5 b n s l m).pairs = m := pairs5 b n s l m
    have HPU := Lib.hid hpu
    clear hk hn hs hl hm rl rm ks il im ihl ihm hus HU0 hpu
    obtain ⟨dd, hu, hdd⟩ := Try.structV
    have DD := Lib.hid hdd
    have HU := Lib.hid hu
    clear hu hdd
    have HT := Lib.hid ht
    cases ht with
    | mk k1 b1 n1 s1 l1 m1 la1 lc1 ma1 mc1 cl1 cm1 hk1 hn1 hs1 hl1 hm1 rl1 rm1 ks1 il1 im1 =>
      have HM1 : Hid (SliceP w1 R1 m1 ma1 mc1 cm1) := ⟨hm1, rm1, ks1, im1⟩
      have hle1 := hm1.le
      have hbig1 := hm1.big
      have hml1 : m1.length ≤ 400000 := by
        have h1 := len_le_sumL (fun p : ByteArray × T => p.2.size) m1 (fun q _ => size_posL q.2)
        rw [T.size_mk] at hts
        omega
      have hmz1 : Hid (∀ q ∈ m1, q.2.size ≤ 400000) := fun q hq => by
        have h1 := le_sum (List.mem_map.2 ⟨q, hq, rfl⟩ : q.2.size ∈ m1.map fun p => p.2.size)
        rw [T.size_mk] at hts
        omega
      obtain rfl : k1 = 5 := hpt.kind
      have htm : (T.mk 5 b1 n1 s1 l1 m1).pairs = m1 := pairs5 b1 n1 s1 l1 m1
      have HPT := Lib.hid hpt
      have HAM : Hid (Asc m1 ∧ Asc m) := ⟨by have := hpt.asc; rwa [htm] at this, by have := HPU.out.asc; rwa [hum] at this⟩
      have HDA : Hid (∀ (j : Nat) (hj : j < m.length), diffAt (findR m[j].1 m1) (some m[j].2) = none ↔ findR m[j].1 m1 = some m[j].2) := fun j hj => by
        have h := diff_at HPT.out HPU.out j (by rw [hum]; exact hj)
        simp only [hum, htm] at h
        exact h
      have HSUB : Hid (∀ (key : ByteArray) (y : T), findR key m1 = some y → y.size ≤ 400000 ∧ (y.kind = 5 → Str y)) := fun key y hr => by
        obtain ⟨q, hq, _, rfl⟩ := findR_mem hr
        exact ⟨hmz1.out q hq, fun h5 => HPT.out.sub (key := key) (by rw [htm]; exact hr) h5⟩
      have HSUC : Hid (∀ (j : Nat) (hj : j < m.length), m[j].2.kind = 5 → Str m[j].2) := fun j hj h5 => by
        have e := at_some HAM.out.2 j hj
        exact HPU.out.sub (key := m[j].1) (by rw [hum]; exact e) h5
      have HE : Hid (T.diff (.mk 5 b1 n1 s1 l1 m1) (.mk 5 b n s l m) = mk5 (diffR m1 m)) := by
        show _ = _
        rw [diff_map _ b n s l m rfl, htm]
        rfl
      rw [HE.out]
      clear hk1 hn1 hs1 hl1 hm1 rl1 rm1 ks1 il1 im1 hts hpt HPT HPU HE hum htm
      have A2 := Lib.hid ((((Below.refl w.heap.size w).alloc (Nat.le_refl _) (.cells #[.int .i64 5, .bool b1, .int .i64 n1, .string s1, .slice la1 l1.length lc1, .slice ma1 m1.length mc1] 25)).alloc (by simp) (.cells #[.int .i64 5, .bool b, .int .i64 n, .string s, .slice la l.length lc, .slice ma m.length mc] 25)).alloc (by simp; omega) (.cells #[.int .i64 0, .bool false, .int .i64 0, .string ⟨#[]⟩, .slice none 0 0, .slice none 0 0] 25))
      have B3 := (Below.refl (((w.alloc (.cells #[.int .i64 5, .bool b1, .int .i64 n1, .string s1, .slice la1 l1.length lc1, .slice ma1 m1.length mc1] 25)).alloc (.cells #[.int .i64 5, .bool b, .int .i64 n, .string s, .slice la l.length lc, .slice ma m.length mc] 25)).alloc (.cells #[.int .i64 0, .bool false, .int .i64 0, .string ⟨#[]⟩, .slice none 0 0, .slice none 0 0] 25)).heap.size (((w.alloc (.cells #[.int .i64 5, .bool b1, .int .i64 n1, .string s1, .slice la1 l1.length lc1, .slice ma1 m1.length mc1] 25)).alloc (.cells #[.int .i64 5, .bool b, .int .i64 n, .string s, .slice la l.length lc, .slice ma m.length mc] 25)).alloc (.cells #[.int .i64 0, .bool false, .int .i64 0, .string ⟨#[]⟩, .slice none 0 0, .slice none 0 0] 25))).alloc (Nat.le_refl _) (.cells #[.int .i64 5, .bool false, .int .i64 0, .string ⟨#[]⟩, .slice none 0 0, .slice none 0 0] 25)
      obtain ⟨q0, q1, q2, q3⟩ := three_boxes B3 (by simp)
      have Q2 := Lib.hid q2
      have Q3 := Lib.hid q3
      have e3 : (((w.alloc (.cells #[.int .i64 5, .bool b1, .int .i64 n1, .string s1, .slice la1 l1.length lc1, .slice ma1 m1.length mc1] 25)).alloc (.cells #[.int .i64 5, .bool b, .int .i64 n, .string s, .slice la l.length lc, .slice ma m.length mc] 25)).alloc (.cells #[.int .i64 0, .bool false, .int .i64 0, .string ⟨#[]⟩, .slice none 0 0, .slice none 0 0] 25)).heap.size = w.heap.size + 1 + 1 + 1 := by simp
      have BO := BoxA.new (((w.alloc (.cells #[.int .i64 5, .bool b1, .int .i64 n1, .string s1, .slice la1 l1.length lc1, .slice ma1 m1.length mc1] 25)).alloc (.cells #[.int .i64 5, .bool b, .int .i64 n, .string s, .slice la l.length lc, .slice ma m.length mc] 25)).alloc (.cells #[.int .i64 0, .bool false, .int .i64 0, .string ⟨#[]⟩, .slice none 0 0, .slice none 0 0] 25)) (.int .i64 5) (.bool false) (.int .i64 0) (.string ⟨#[]⟩) (.slice none 0 0) (.slice none 0 0) 25
      have FO := fun j => World.frozen?_alloc_new (((w.alloc (.cells #[.int .i64 5, .bool b1, .int .i64 n1, .string s1, .slice la1 l1.length lc1, .slice ma1 m1.length mc1] 25)).alloc (.cells #[.int .i64 5, .bool b, .int .i64 n, .string s, .slice la l.length lc, .slice ma m.length mc] 25)).alloc (.cells #[.int .i64 0, .bool false, .int .i64 0, .string ⟨#[]⟩, .slice none 0 0, .slice none 0 0] 25)) #[.int .i64 5, .bool false, .int .i64 0, .string ⟨#[]⟩, .slice none 0 0, .slice none 0 0] 25 j
      rw [e3] at BO FO
      have BO0 := Lib.hid BO
      have FO0 := Lib.hid FO
      have HSV : Hid (((((w.alloc (.cells #[.int .i64 5, .bool b1, .int .i64 n1, .string s1, .slice la1 l1.length lc1, .slice ma1 m1.length mc1] 25)).alloc (.cells #[.int .i64 5, .bool b, .int .i64 n, .string s, .slice la l.length lc, .slice ma m.length mc] 25)).alloc (.cells #[.int .i64 0, .bool false, .int .i64 0, .string ⟨#[]⟩, .slice none 0 0, .slice none 0 0] 25)).alloc (.cells #[.int .i64 5, .bool false, .int .i64 0, .string ⟨#[]⟩, .slice none 0 0, .slice none 0 0] 25)).heap.size = w.heap.size + 4) := by show _ = _; simp
      have AV := Lib.hid (A2.out.alloc (by simp; omega) (.cells #[.int .i64 5, .bool false, .int .i64 0, .string ⟨#[]⟩, .slice none 0 0, .slice none 0 0] 25))
      have BXA : Hid (BoxA ((((w.alloc (.cells #[.int .i64 5, .bool b1, .int .i64 n1, .string s1, .slice la1 l1.length lc1, .slice ma1 m1.length mc1] 25)).alloc (.cells #[.int .i64 5, .bool b, .int .i64 n, .string s, .slice la l.length lc, .slice ma m.length mc] 25)).alloc (.cells #[.int .i64 0, .bool false, .int .i64 0, .string ⟨#[]⟩, .slice none 0 0, .slice none 0 0] 25)).alloc (.cells #[.int .i64 5, .bool false, .int .i64 0, .string ⟨#[]⟩, .slice none 0 0, .slice none 0 0] 25)) w.heap.size (.int .i64 5) (.bool b1) (.int .i64 n1) (.string s1) (.slice la1 l1.length lc1) (.slice ma1 m1.length mc1)) := ⟨q0 0, q0 1, q0 2, q0 3, q0 4, q0 5⟩
      have BXB : Hid (BoxA ((((w.alloc (.cells #[.int .i64 5, .bool b1, .int .i64 n1, .string s1, .slice la1 l1.length lc1, .slice ma1 m1.length mc1] 25)).alloc (.cells #[.int .i64 5, .bool b, .int .i64 n, .string s, .slice la l.length lc, .slice ma m.length mc] 25)).alloc (.cells #[.int .i64 0, .bool false, .int .i64 0, .string ⟨#[]⟩, .slice none 0 0, .slice none 0 0] 25)).alloc (.cells #[.int .i64 5, .bool false, .int .i64 0, .string ⟨#[]⟩, .slice none 0 0, .slice none 0 0] 25)) (w.heap.size + 1) (.int .i64 5) (.bool b) (.int .i64 n) (.string s) (.slice la l.length lc) (.slice ma m.length mc)) := ⟨q1 0, q1 1, q1 2, q1 3, q1 4, q1 5⟩
      have hw01 := h01.size
      have hw1 := hw.size
      have H01 := Lib.hid h01
      clear q0 q1 q2 q3 e3 BO FO B3 h01
      go_enter Try.func25, Try.ntmps25
      go_wp2_with fail
      generalize hv : ((((w.alloc (.cells #[.int .i64 5, .bool b1, .int .i64 n1, .string s1, .slice la1 l1.length lc1, .slice ma1 m1.length mc1] 25)).alloc (.cells #[.int .i64 5, .bool b, .int .i64 n, .string s, .slice la l.length lc, .slice ma m.length mc] 25)).alloc (.cells #[.int .i64 0, .bool false, .int .i64 0, .string ⟨#[]⟩, .slice none 0 0, .slice none 0 0] 25)).alloc (.cells #[.int .i64 5, .bool false, .int .i64 0, .string ⟨#[]⟩, .slice none 0 0, .slice none 0 0] 25)) = v at *
      clear hv
      have hvs := HSV.out
      have hvw : v.heap.size ≤ w.heap.size + 4 := by omega
      have hvw2 : w.heap.size + 4 ≤ v.heap.size := by omega
      clear hvs
      go_loopw [6] (fun vi wr => ∃ (j : Nat) (o : Prs) (t0 : Int) (t1 : Bool) (t2 : Int) (t3 : ByteArray) (t4 : Option Addr) (t4l t4c : Nat) (t5 : Option Addr) (t5l t5c : Nat), j ≤ m1.length ∧ vi = .int .i64 j ∧ Hid (RD1 m1 m j o) ∧ BoxA wr (w.heap.size + 1 + 1 + 1) (.int .i64 t0) (.bool t1) (.int .i64 t2) (.string t3) (.slice t4 t4l t4c) (.slice t5 t5l t5c) ∧ Hid (Lies wr (fun b => ((R1 b ∨ (R2 b ∧ b < w0.heap.size)) ∧ b < w1.heap.size) ∨ w.heap.size + 3 < b) (mk5 (o)) #[.int .i64 t0, .bool t1, .int .i64 t2, .string t3, .slice t4 t4l t4c, .slice t5 t5l t5c]) ∧ Hid (∀ k, wr.frozen? ⟨w.heap.size + 1 + 1 + 1, k, none⟩ = false) ∧ Hid (∀ b, b < v.heap.size → b ≠ w.heap.size + 3 → wr.heap[b]? = v.heap[b]?) ∧ v.heap.size ≤ wr.heap.size ∧ Hid (Below w.heap.size w wr)) (fun vi _ => m1.length - (intOf vi).toNat)
      case atStart => exact ⟨0, [], 5, false, 0, ⟨#[]⟩, none, 0, 0, none, 0, 0, by omega, rfl, RD1.start _ _, BO0.out, none5_lies _ _, FO0, fun _ _ _ => rfl, Nat.le_refl _, AV⟩
      case round =>
        obtain ⟨j, o, t0, t1, t2, t3, t4, t4l, t4c, t5, t5l, t5c, hj, rfl, HRD, hbox, HLI, HFZ, KP, hsz, HBW⟩ := hrel
        have hbr := bstep hw HBW.out hw.size
        have HBOX := Lib.hid hbox
        have hbl := hbox.lt
        have hbl2 : w.heap.size + 3 < wr.heap.size := hbl
        clear hbox
        obtain ⟨xa0, xa1, xa2, xa3, xa4, xa5⟩ := BXA.out.block (KP.out w.heap.size (by omega) (by omega))
        obtain ⟨xb0, xb1, xb2, xb3, xb4, xb5⟩ := BXB.out.block (KP.out (w.heap.size + 1) (by omega) (by omega))
        by_cases hjl : j < m1.length
        · obtain ⟨bl, ol, hma1, _⟩ := HM1.out.hdr.some (by omega)
          subst hma1
          obtain ⟨bl2, ol2, c0, c1, c2, c3, c4, c4l, c4c, c5, c5l, c5c, e2, hc, r0, r1, r2, r3, r4, r5, r6⟩ := openM hbr HM1.out.hdr HM1.out.rows hjl (HM1.out.each j hjl)
          obtain ⟨rfl, rfl⟩ : bl = bl2 ∧ ol = ol2 := by simpa using e2
          have hko := HM1.out.keys j hjl
          have hol : (mk5 o).map.length ≤ 1000000 := by have := HRD.out.len; show o.length ≤ _; omega
          clear hc e2 r1 r2 r3 r4 r5 r6
          cases hr : findR m1[j].1 m with
          | some y =>
            have CT : Hid (∀ wb, Below wr.heap.size wr wb → Calls Try.prog 9 #[.agg #[.int .i64 5, .bool b, .int .i64 n, .string s, .slice la l.length lc, .slice ma m.length mc], .string m1[j].1] wb fun e w' => ∃ (f0 : Int) (f1 : Bool) (f2 : Int) (f3 : ByteArray) (f4 : Option Addr) (f4l f4c : Nat) (f5 : Option Addr) (f5l f5c : Nat), e = .returned (.tuple #[.agg #[.int .i64 f0, .bool f1, .int .i64 f2, .string f3, .slice f4 f4l f4c, .slice f5 f5l f5c], .bool true]) ∧ Lies w' (fun b => R2 b ∧ b < w0.heap.size) y #[.int .i64 f0, .bool f1, .int .i64 f2, .string f3, .slice f4 f4l f4c, .slice f5 f5l f5c] ∧ Below wb.heap.size wb w') := fun wb hb => by
              have h := rGet_any HU2.out m1[j].1 wb (bstep hbr hb hbr.size)
              rw [show findR m1[j].1 (T.mk 5 b n s l m).map = some y from hr] at h
              refine h.mono ?_
              rintro e w' ⟨ds, rfl, hL, hb2⟩
              obtain ⟨f0, f1, f2, f3, f4, f4l, f4c, f5, f5l, f5c, rfl⟩ := hL.six
              exact ⟨f0, f1, f2, f3, f4, f4l, f4c, f5, f5l, f5c, rfl, hL.weaken fun b hb => hb.1, hb2⟩

            have HRN := Lib.hid (HRD.out.skip hjl (by rw [hr]; rfl))
            clear hr
            go_upto_region 5 with fail
            refine wp_region_specsL wr 12 11 (fun i => match i with | 0 => 22 | 1 => 23 | 2 => 24 | 3 => 25 | 4 => 26 | 5 => 27 | 6 => 28 | 7 => 29 | 8 => 21 | 9 => 30 | 10 => 31 | 11 => 7 | 12 => 8 | _ => 0) (fun i => decide (i = 10)) (fun i x wx => match i with | 0 => x = .agg #[.int .i64 5, .bool b, .int .i64 n, .string s, .slice la l.length lc, .slice ma m.length mc] | 1 => x = .pointer (some ⟨w.heap.size, 5, none⟩) | 2 => x = .slice (some ⟨bl, ol, none⟩) m1.length mc1 | 3 => x = .int .i64 j | 4 => x = .pointer (some ⟨bl, ol + j * 7, none⟩) | 5 => x = .pointer (some ⟨bl, ol + j * 7, none⟩) | 6 => x = .string m1[j].1 | 7 => ∃ (f0 : Int) (f1 : Bool) (f2 : Int) (f3 : ByteArray) (f4 : Option Addr) (f4l f4c : Nat) (f5 : Option Addr) (f5l f5c : Nat), x = .tuple #[.agg #[.int .i64 f0, .bool f1, .int .i64 f2, .string f3, .slice f4 f4l f4c, .slice f5 f5l f5c], .bool true]  ∧ Lies wx (fun b => R2 b ∧ b < w0.heap.size) y #[.int .i64 f0, .bool f1, .int .i64 f2, .string f3, .slice f4 f4l f4c, .slice f5 f5l f5c] | 8 => ∃ (f0 : Int) (f1 : Bool) (f2 : Int) (f3 : ByteArray) (f4 : Option Addr) (f4l f4c : Nat) (f5 : Option Addr) (f5l f5c : Nat), x = .tuple #[.agg #[.int .i64 f0, .bool f1, .int .i64 f2, .string f3, .slice f4 f4l f4c, .slice f5 f5l f5c], .bool true]  ∧ Lies wx (fun b => R2 b ∧ b < w0.heap.size) y #[.int .i64 f0, .bool f1, .int .i64 f2, .string f3, .slice f4 f4l f4c, .slice f5 f5l f5c] | 9 => ∃ (f0 : Int) (f1 : Bool) (f2 : Int) (f3 : ByteArray) (f4 : Option Addr) (f4l f4c : Nat) (f5 : Option Addr) (f5l f5c : Nat), x = .agg #[.int .i64 f0, .bool f1, .int .i64 f2, .string f3, .slice f4 f4l f4c, .slice f5 f5l f5c] ∧ Lies wx (fun b => R2 b ∧ b < w0.heap.size) y #[.int .i64 f0, .bool f1, .int .i64 f2, .string f3, .slice f4 f4l f4c, .slice f5 f5l f5c] | 10 => x = .bool true | 11 => ∃ g : Nat, x = .pointer (some ⟨g, 0, none⟩) ∧ ZB wx g ∧ wr.heap.size ≤ g | _ => True) (fun i x => match i with | 0 => x = .agg #[.int .i64 5, .bool b, .int .i64 n, .string s, .slice la l.length lc, .slice ma m.length mc] | 1 => x = .pointer (some ⟨w.heap.size, 5, none⟩) | 2 => x = .slice (some ⟨bl, ol, none⟩) m1.length mc1 | 3 => x = .int .i64 j | 4 => x = .pointer (some ⟨bl, ol + j * 7, none⟩) | 5 => x = .pointer (some ⟨bl, ol + j * 7, none⟩) | 6 => x = .string m1[j].1 | 7 => ∃ (f0 : Int) (f1 : Bool) (f2 : Int) (f3 : ByteArray) (f4 : Option Addr) (f4l f4c : Nat) (f5 : Option Addr) (f5l f5c : Nat), x = .tuple #[.agg #[.int .i64 f0, .bool f1, .int .i64 f2, .string f3, .slice f4 f4l f4c, .slice f5 f5l f5c], .bool true]  | 8 => ∃ (f0 : Int) (f1 : Bool) (f2 : Int) (f3 : ByteArray) (f4 : Option Addr) (f4l f4c : Nat) (f5 : Option Addr) (f5l f5c : Nat), x = .tuple #[.agg #[.int .i64 f0, .bool f1, .int .i64 f2, .string f3, .slice f4 f4l f4c, .slice f5 f5l f5c], .bool true]  | 9 => ∃ (f0 : Int) (f1 : Bool) (f2 : Int) (f3 : ByteArray) (f4 : Option Addr) (f4l f4c : Nat) (f5 : Option Addr) (f5l f5c : Nat), x = .agg #[.int .i64 f0, .bool f1, .int .i64 f2, .string f3, .slice f4 f4l f4c, .slice f5 f5l f5c] | 10 => x = .bool true | 11 => ∃ g : Nat, x = .pointer (some ⟨g, 0, none⟩) ∧ wr.heap.size ≤ g | 12 => x = .bool true | _ => True) (fun x wx => ∃ (g : Nat) (f0 : Int) (f1 : Bool) (f2 : Int) (f3 : ByteArray) (f4 : Option Addr) (f4l f4c : Nat) (f5 : Option Addr) (f5l f5c : Nat), x = .pointer (some ⟨g, 0, none⟩) ∧ Hid (BoxA wx g (.int .i64 f0) (.bool f1) (.int .i64 f2) (.string f3) (.slice f4 f4l f4c) (.slice f5 f5l f5c)) ∧ Hid (Lies wx (fun b => R2 b ∧ b < w0.heap.size) y #[.int .i64 f0, .bool f1, .int .i64 f2, .string f3, .slice f4 f4l f4c, .slice f5 f5l f5c]) ∧ wr.heap.size ≤ g ∧ g < wx.heap.size ∧ Below wr.heap.size wr wx) (by kernel_rfl) (by kernel_rfl) ?s1 (by decide) (by decide) (Below.refl _ _) ?s2 ?s3 ?s4 ?s5 ?s6 ?s7 ?s8 ?s9
            case s1 => intro i hi; rcases (by omega : i = 0 ∨ i = 1 ∨ i = 2 ∨ i = 3 ∨ i = 4 ∨ i = 5 ∨ i = 6 ∨ i = 7 ∨ i = 8 ∨ i = 9 ∨ i = 10 ∨ i = 11 ∨ i = 12) with rfl | rfl | rfl | rfl | rfl | rfl | rfl | rfl | rfl | rfl | rfl | rfl | rfl <;> exact Nat.lt_of_lt_of_le (by decide : _ < 97) (Nat.le_refl 97)
            case s2 =>
              intro i x w1 w2 hb hU
              match i, hU with
              | 7, ⟨f0, f1, f2, f3, f4, f4l, f4c, f5, f5l, f5c, e, hl⟩ => exact ⟨f0, f1, f2, f3, f4, f4l, f4c, f5, f5l, f5c, e, hl.later hb⟩
              | 8, ⟨f0, f1, f2, f3, f4, f4l, f4c, f5, f5l, f5c, e, hl⟩ => exact ⟨f0, f1, f2, f3, f4, f4l, f4c, f5, f5l, f5c, e, hl.later hb⟩
              | 9, ⟨f0, f1, f2, f3, f4, f4l, f4c, f5, f5l, f5c, e, hl⟩ => exact ⟨f0, f1, f2, f3, f4, f4l, f4c, f5, f5l, f5c, e, hl.later hb⟩
              | 11, ⟨g, e, hz, hg⟩ => exact ⟨g, e, hz.later hb, hg⟩
              | 0, h | 1, h | 2, h | 3, h | 4, h | 5, h | 6, h | 10, h => exact h
              | (k + 12), _ => trivial
            case s3 =>
              intro i x w1 hi hU
              match i, hU with
              | 7, ⟨f0, f1, f2, f3, f4, f4l, f4c, f5, f5l, f5c, e, hl⟩ => exact ⟨f0, f1, f2, f3, f4, f4l, f4c, f5, f5l, f5c, e⟩
              | 8, ⟨f0, f1, f2, f3, f4, f4l, f4c, f5, f5l, f5c, e, hl⟩ => exact ⟨f0, f1, f2, f3, f4, f4l, f4c, f5, f5l, f5c, e⟩
              | 9, ⟨f0, f1, f2, f3, f4, f4l, f4c, f5, f5l, f5c, e, hl⟩ => exact ⟨f0, f1, f2, f3, f4, f4l, f4c, f5, f5l, f5c, e⟩
              | 11, ⟨g, e, hz, hg⟩ => exact ⟨g, e, hg⟩
              | 0, h | 1, h | 2, h | 3, h | 4, h | 5, h | 6, h | 10, h => exact h
              | (k + 12), _ => omega
            case s4 =>
              intro i x w1 hi hL hU
              obtain rfl : i = 10 := of_decide_eq_true hL
              exact hU
            case s5 =>
              intro i o ac wb K' ho hi hL hA hB hdep hK
              have sv3 : ac.tmps[3]?.getD undef = .pointer (some ⟨w.heap.size + 1, 0, none⟩) := hA.sl (t := 3) (by decide)
              have sv2 : ac.tmps[2]?.getD undef = .pointer (some ⟨w.heap.size, 0, none⟩) := hA.sl (t := 2) (by decide)
              have sv6 : ac.tmps[6]?.getD undef = .int .i64 j := hA.sl (t := 6) (by decide)
              have xb0 := cells_frame hB xb0
              have xb1 := cells_frame hB xb1
              have xb2 := cells_frame hB xb2
              have xb3 := cells_frame hB xb3
              have xb4 := cells_frame hB xb4
              have xb5 := cells_frame hB xb5
              have xa5 := cells_frame hB xa5
              have r0 := cells_frame hB r0
              have hL : i ≠ 10 := of_decide_eq_false hL
              rcases (by omega : i = 0 ∨ i = 1 ∨ i = 2 ∨ i = 3 ∨ i = 4 ∨ i = 5 ∨ i = 6 ∨ i = 7 ∨ i = 8 ∨ i = 9 ∨ i = 11) with rfl | rfl | rfl | rfl | rfl | rfl | rfl | rfl | rfl | rfl | rfl
              · simp at ho
                subst ho
                clear hdep hA
                go_simp
                exact hK _ wb (Below.refl _ _) rfl
              · simp at ho
                subst ho
                clear hdep hA
                go_simp
                exact hK _ wb (Below.refl _ _) rfl
              · simp at ho
                subst ho
                have z1 : ac.tmps[23]?.getD undef = .pointer (some ⟨w.heap.size, 5, none⟩) := hdep { on := 1, ground := .data } (by simp) rfl
                clear hdep hA
                go_simp
                exact hK _ wb (Below.refl _ _) rfl
              · simp at ho
                subst ho
                clear hdep hA
                go_simp
                exact hK _ wb (Below.refl _ _) rfl
              · simp at ho
                subst ho
                have z2 : ac.tmps[24]?.getD undef = .slice (some ⟨bl, ol, none⟩) m1.length mc1 := hdep { on := 2, ground := .data } (by simp) rfl
                have z3 : ac.tmps[25]?.getD undef = .int .i64 j := hdep { on := 3, ground := .data } (by simp) rfl
                clear hdep hA
                go_simp
                exact hK _ wb (Below.refl _ _) rfl
              · simp at ho
                subst ho
                have z4 : ac.tmps[26]?.getD undef = .pointer (some ⟨bl, ol + j * 7, none⟩) := hdep { on := 4, ground := .data } (by simp) rfl
                clear hdep hA
                go_simp
                exact hK _ wb (Below.refl _ _) rfl
              · simp at ho
                subst ho
                have z5 : ac.tmps[27]?.getD undef = .pointer (some ⟨bl, ol + j * 7, none⟩) := hdep { on := 5, ground := .data } (by simp) rfl
                clear hdep hA
                go_simp
                exact hK _ wb (Below.refl _ _) rfl
              · simp at ho
                subst ho
                have z0 : ac.tmps[22]?.getD undef = .agg #[.int .i64 5, .bool b, .int .i64 n, .string s, .slice la l.length lc, .slice ma m.length mc] := hdep { on := 0, ground := .data } (by simp) rfl
                have z6 : ac.tmps[28]?.getD undef = .string m1[j].1 := hdep { on := 6, ground := .data } (by simp) rfl
                clear hdep hA
                go_simp
                refine (CT.out wb hB).mono ?_
                rintro e w5 ⟨f0, f1, f2, f3, f4, f4l, f4c, f5, f5l, f5c, rfl, hl, hb5⟩
                exact hK _ w5 hb5 ⟨f0, f1, f2, f3, f4, f4l, f4c, f5, f5l, f5c, rfl, hl⟩
              · simp at ho
                subst ho
                obtain ⟨f0, f1, f2, f3, f4, f4l, f4c, f5, f5l, f5c, z7, hl⟩ := hdep { on := 7, ground := .data } (by simp) rfl
                have z7 : ac.tmps[29]?.getD undef = .tuple #[.agg #[.int .i64 f0, .bool f1, .int .i64 f2, .string f3, .slice f4 f4l f4c, .slice f5 f5l f5c], .bool true] := z7
                clear hdep hA
                go_simp
                exact hK _ wb (Below.refl _ _) ⟨f0, f1, f2, f3, f4, f4l, f4c, f5, f5l, f5c, rfl, hl⟩
              · simp at ho
                subst ho
                obtain ⟨f0, f1, f2, f3, f4, f4l, f4c, f5, f5l, f5c, z7, hl⟩ := hdep { on := 8, ground := .data } (by simp) rfl
                have z7 : ac.tmps[21]?.getD undef = .tuple #[.agg #[.int .i64 f0, .bool f1, .int .i64 f2, .string f3, .slice f4 f4l f4c, .slice f5 f5l f5c], .bool true] := z7
                clear hdep hA
                go_simp
                exact hK _ wb (Below.refl _ _) ⟨f0, f1, f2, f3, f4, f4l, f4c, f5, f5l, f5c, rfl, hl⟩
              · simp at ho
                subst ho
                clear hdep hA
                go_simp
                exact hK _ _ ((Below.refl _ _).alloc (Nat.le_refl _) _) ⟨wb.heap.size, rfl, ZB.new wb, hB.size⟩
            case s6 =>
              intro i o ac wb K' ho hi hL hA hdep hK
              obtain rfl : i = 10 := of_decide_eq_true hL
              simp at ho
              subst ho
              obtain ⟨f0, f1, f2, f3, f4, f4l, f4c, f5, f5l, f5c, z8⟩ := hdep { on := 8, ground := .data } (by simp) rfl
              have z8 : ac.tmps[21]?.getD undef = .tuple #[.agg #[.int .i64 f0, .bool f1, .int .i64 f2, .string f3, .slice f4 f4l f4c, .slice f5 f5l f5c], .bool true] := z8
              clear hdep hA
              go_simp
              exact hK _ rfl
            case s7 =>
              intro o ac wb K' ho hA hB hU hK
              simp at ho
              subst ho
              obtain ⟨f0, f1, f2, f3, f4, f4l, f4c, f5, f5l, f5c, z9, hl⟩ := hU 9 (by omega) (by decide)
              obtain ⟨g, z11, hzb, hg⟩ := hU 11 (by omega) (by decide)
              have z9 : ac.tmps[30]?.getD undef = .agg #[.int .i64 f0, .bool f1, .int .i64 f2, .string f3, .slice f4 f4l f4c, .slice f5 f5l f5c] := z9
              have z11' : ac.tmps[7]?.getD undef = .pointer (some ⟨g, 0, none⟩) := z11
              have zc : ∀ j, wb.cell? ⟨g, j, none⟩ = (#[.int .i64 0, .bool false, .int .i64 0, .string ⟨#[]⟩, .slice none 0 0, .slice none 0 0] : Array Value)[j]? := hzb.cell
              have zf := hzb.frozen
              have hbx := hzb.box.row (.int .i64 f0) (.bool f1) (.int .i64 f2) (.string f3) (.slice f4 f4l f4c) (.slice f5 f5l f5c)
              have hlt := hzb.lt
              have hlz := Lib.hid hl
              clear hU hA hl
              go_simp
              exact hK _ ⟨g, f0, f1, f2, f3, f4, f4l, f4c, f5, f5l, f5c, z11, hbx, (hlz.out.keepB (fun x hx _ => setRow_heap g [.int .i64 f0, .bool f1, .int .i64 f2, .string f3, .slice f4 f4l f4c, .slice f5 f5l f5c] wb 0 x (by have := hx.2; omega))).weaken (fun x hx => hx.1), hg, by show _ < (setRow wb g 0 [.int .i64 f0, .bool f1, .int .i64 f2, .string f3, .slice f4 f4l f4c, .slice f5 f5l f5c]).heap.size; rw [setRow_size]; exact hlt, setRow_below g hg [.int .i64 f0, .bool f1, .int .i64 f2, .string f3, .slice f4 f4l f4c, .slice f5 f5l f5c] wb 0 hB⟩
            case s8 =>
              intro o ac wb K' ho hA hVV hK
              simp at ho
              subst ho
              have z10 : ac.tmps[31]?.getD undef = .bool true := hVV 10 (by omega)
              clear hVV hA
              go_simp
              exact hK _ rfl
            case s9 =>
              intro ac wn hA hVV hF
              obtain ⟨g, f0, f1, f2, f3, f4, f4l, f4c, f5, f5l, f5c, z11, XF, HF, hg, hgl, hbn⟩ := hF
              have z12 := hVV 12 (by omega)
              have hs : slots 13 (fun i => match i with | 0 => 22 | 1 => 23 | 2 => 24 | 3 => 25 | 4 => 26 | 5 => 27 | 6 => 28 | 7 => 29 | 8 => 21 | 9 => 30 | 10 => 31 | 11 => 7 | 12 => 8 | _ => 0) = [22, 23, 24, 25, 26, 27, 28, 29, 21, 30, 31, 7, 8] := by rfl
              rw [hs] at hA
              have hac := hA.act (fun t ht => by
                have h8 : t = 22 ∨ t = 23 ∨ t = 24 ∨ t = 25 ∨ t = 26 ∨ t = 27 ∨ t = 28 ∨ t = 29 ∨ t = 21 ∨ t = 30 ∨ t = 31 ∨ t = 7 ∨ t = 8 := by simpa using ht
                rcases h8 with rfl | rfl | rfl | rfl | rfl | rfl | rfl | rfl | rfl | rfl | rfl | rfl | rfl <;> exact Nat.lt_of_lt_of_le (by decide : _ < 97) (Nat.le_refl 97))
              rw [List.foldl_cons, List.foldl_cons, List.foldl_cons, List.foldl_cons, List.foldl_cons, List.foldl_cons, List.foldl_cons, List.foldl_cons, List.foldl_cons, List.foldl_cons, List.foldl_cons, List.foldl_cons, List.foldl_cons, List.foldl_nil] at hac
              have z11 : sl ac 7 = .pointer (some ⟨g, 0, none⟩) := z11
              have z12 : sl ac 8 = .bool true := z12
              rw [z11, z12] at hac
              generalize sl ac 22 = x22 at hac
              generalize sl ac 23 = x23 at hac
              generalize sl ac 24 = x24 at hac
              generalize sl ac 25 = x25 at hac
              generalize sl ac 26 = x26 at hac
              generalize sl ac 27 = x27 at hac
              generalize sl ac 28 = x28 at hac
              generalize sl ac 29 = x29 at hac
              generalize sl ac 21 = x21 at hac
              generalize sl ac 30 = x30 at hac
              generalize sl ac 31 = x31 at hac
              clear hA hs hVV z11 z12
              subst hac
              simp only [Act.put, List.setIfInBounds_toArray, List.set_cons_succ, List.set_cons_zero]

              have hF := (HBOX.out.later hbn)
              have NB' := Lib.hid hF
              have NL := Lib.hid (HLI.out.later hbn)
              have NF : Hid (∀ k, wn.frozen? ⟨w.heap.size + 1 + 1 + 1, k, none⟩ = false) := fun k => (hbn.frozen (p := ⟨w.heap.size + 1 + 1 + 1, k, none⟩) hbl).trans (HFZ.out k)
              have NK : Hid (∀ b, b < v.heap.size → b ≠ w.heap.size + 3 → wn.heap[b]? = v.heap[b]?) := fun b hb hn => (hbn.block b (by omega)).trans (KP.out b hb hn)
              have NS : v.heap.size ≤ wn.heap.size := Nat.le_trans hsz hbn.size
              have NW : Hid (Below w.heap.size w wn) := bstep HBW.out hbn HBW.out.size
              clear HBOX HLI HFZ KP HBW CT XF HF xa0 xa1 xa2 xa3 xa4 xa5 xb0 xb1 xb2 xb3 xb4 xb5 r0 hF hbr
              go_wp2_with fail
              go_roundw
              case rel => exact ⟨j + 1, o, t0, t1, t2, t3, t4, t4l, t4c, t5, t5l, t5c, by omega, by go_num, HRN, NB'.out, NL, NF, NK, NS, NW⟩
              case measure => simp [intOf]; omega
          | none =>
            have CT : Hid (∀ wb, Below wr.heap.size wr wb → Calls Try.prog 9 #[.agg #[.int .i64 5, .bool b, .int .i64 n, .string s, .slice la l.length lc, .slice ma m.length mc], .string m1[j].1] wb fun e w' => ∃ (f0 : Int) (f1 : Bool) (f2 : Int) (f3 : ByteArray) (f4 : Option Addr) (f4l f4c : Nat) (f5 : Option Addr) (f5l f5c : Nat), e = .returned (.tuple #[.agg #[.int .i64 f0, .bool f1, .int .i64 f2, .string f3, .slice f4 f4l f4c, .slice f5 f5l f5c], .bool false]) ∧ Lies w' (fun b => R2 b ∧ b < w0.heap.size) T.nil #[.int .i64 f0, .bool f1, .int .i64 f2, .string f3, .slice f4 f4l f4c, .slice f5 f5l f5c] ∧ Below wb.heap.size wb w') := fun wb hb => by
              have h := rGet_any HU2.out m1[j].1 wb (bstep hbr hb hbr.size)
              rw [show findR m1[j].1 (T.mk 5 b n s l m).map = none from hr] at h
              refine h.mono ?_
              rintro e w' ⟨ds, rfl, hL, hb2⟩
              obtain ⟨f0, f1, f2, f3, f4, f4l, f4c, f5, f5l, f5c, rfl⟩ := hL.six
              exact ⟨f0, f1, f2, f3, f4, f4l, f4c, f5, f5l, f5c, rfl, hL.weaken fun b hb => hb.1, hb2⟩

            have HRN := Lib.hid (HRD.out.put hjl (by rw [hr]; rfl))
            have HNW : Hid (mk5 (rputG m1[j].1 T.nil false (mk5 o).map) = mk5 (putR m1[j].1 T.nil o)) := by
              show _ = _
              rw [show (mk5 o).map = o from rfl, rputG_put _ _ HRD.out.asc]
            clear hr
            go_upto_region 5 with fail
            refine wp_region_specsL wr 12 11 (fun i => match i with | 0 => 22 | 1 => 23 | 2 => 24 | 3 => 25 | 4 => 26 | 5 => 27 | 6 => 28 | 7 => 29 | 8 => 21 | 9 => 30 | 10 => 31 | 11 => 7 | 12 => 8 | _ => 0) (fun i => decide (i = 10)) (fun i x wx => match i with | 0 => x = .agg #[.int .i64 5, .bool b, .int .i64 n, .string s, .slice la l.length lc, .slice ma m.length mc] | 1 => x = .pointer (some ⟨w.heap.size, 5, none⟩) | 2 => x = .slice (some ⟨bl, ol, none⟩) m1.length mc1 | 3 => x = .int .i64 j | 4 => x = .pointer (some ⟨bl, ol + j * 7, none⟩) | 5 => x = .pointer (some ⟨bl, ol + j * 7, none⟩) | 6 => x = .string m1[j].1 | 7 => ∃ (f0 : Int) (f1 : Bool) (f2 : Int) (f3 : ByteArray) (f4 : Option Addr) (f4l f4c : Nat) (f5 : Option Addr) (f5l f5c : Nat), x = .tuple #[.agg #[.int .i64 f0, .bool f1, .int .i64 f2, .string f3, .slice f4 f4l f4c, .slice f5 f5l f5c], .bool false]  ∧ Lies wx (fun b => R2 b ∧ b < w0.heap.size) T.nil #[.int .i64 f0, .bool f1, .int .i64 f2, .string f3, .slice f4 f4l f4c, .slice f5 f5l f5c] | 8 => ∃ (f0 : Int) (f1 : Bool) (f2 : Int) (f3 : ByteArray) (f4 : Option Addr) (f4l f4c : Nat) (f5 : Option Addr) (f5l f5c : Nat), x = .tuple #[.agg #[.int .i64 f0, .bool f1, .int .i64 f2, .string f3, .slice f4 f4l f4c, .slice f5 f5l f5c], .bool false]  ∧ Lies wx (fun b => R2 b ∧ b < w0.heap.size) T.nil #[.int .i64 f0, .bool f1, .int .i64 f2, .string f3, .slice f4 f4l f4c, .slice f5 f5l f5c] | 9 => ∃ (f0 : Int) (f1 : Bool) (f2 : Int) (f3 : ByteArray) (f4 : Option Addr) (f4l f4c : Nat) (f5 : Option Addr) (f5l f5c : Nat), x = .agg #[.int .i64 f0, .bool f1, .int .i64 f2, .string f3, .slice f4 f4l f4c, .slice f5 f5l f5c] ∧ Lies wx (fun b => R2 b ∧ b < w0.heap.size) T.nil #[.int .i64 f0, .bool f1, .int .i64 f2, .string f3, .slice f4 f4l f4c, .slice f5 f5l f5c] | 10 => x = .bool false | 11 => ∃ g : Nat, x = .pointer (some ⟨g, 0, none⟩) ∧ ZB wx g ∧ wr.heap.size ≤ g | _ => True) (fun i x => match i with | 0 => x = .agg #[.int .i64 5, .bool b, .int .i64 n, .string s, .slice la l.length lc, .slice ma m.length mc] | 1 => x = .pointer (some ⟨w.heap.size, 5, none⟩) | 2 => x = .slice (some ⟨bl, ol, none⟩) m1.length mc1 | 3 => x = .int .i64 j | 4 => x = .pointer (some ⟨bl, ol + j * 7, none⟩) | 5 => x = .pointer (some ⟨bl, ol + j * 7, none⟩) | 6 => x = .string m1[j].1 | 7 => ∃ (f0 : Int) (f1 : Bool) (f2 : Int) (f3 : ByteArray) (f4 : Option Addr) (f4l f4c : Nat) (f5 : Option Addr) (f5l f5c : Nat), x = .tuple #[.agg #[.int .i64 f0, .bool f1, .int .i64 f2, .string f3, .slice f4 f4l f4c, .slice f5 f5l f5c], .bool false]  | 8 => ∃ (f0 : Int) (f1 : Bool) (f2 : Int) (f3 : ByteArray) (f4 : Option Addr) (f4l f4c : Nat) (f5 : Option Addr) (f5l f5c : Nat), x = .tuple #[.agg #[.int .i64 f0, .bool f1, .int .i64 f2, .string f3, .slice f4 f4l f4c, .slice f5 f5l f5c], .bool false]  | 9 => ∃ (f0 : Int) (f1 : Bool) (f2 : Int) (f3 : ByteArray) (f4 : Option Addr) (f4l f4c : Nat) (f5 : Option Addr) (f5l f5c : Nat), x = .agg #[.int .i64 f0, .bool f1, .int .i64 f2, .string f3, .slice f4 f4l f4c, .slice f5 f5l f5c] | 10 => x = .bool false | 11 => ∃ g : Nat, x = .pointer (some ⟨g, 0, none⟩) ∧ wr.heap.size ≤ g | 12 => x = .bool false | _ => True) (fun x wx => ∃ (g : Nat) (f0 : Int) (f1 : Bool) (f2 : Int) (f3 : ByteArray) (f4 : Option Addr) (f4l f4c : Nat) (f5 : Option Addr) (f5l f5c : Nat), x = .pointer (some ⟨g, 0, none⟩) ∧ Hid (BoxA wx g (.int .i64 f0) (.bool f1) (.int .i64 f2) (.string f3) (.slice f4 f4l f4c) (.slice f5 f5l f5c)) ∧ Hid (Lies wx (fun b => R2 b ∧ b < w0.heap.size) T.nil #[.int .i64 f0, .bool f1, .int .i64 f2, .string f3, .slice f4 f4l f4c, .slice f5 f5l f5c]) ∧ wr.heap.size ≤ g ∧ g < wx.heap.size ∧ Below wr.heap.size wr wx) (by kernel_rfl) (by kernel_rfl) ?s1 (by decide) (by decide) (Below.refl _ _) ?s2 ?s3 ?s4 ?s5 ?s6 ?s7 ?s8 ?s9
            case s1 => intro i hi; rcases (by omega : i = 0 ∨ i = 1 ∨ i = 2 ∨ i = 3 ∨ i = 4 ∨ i = 5 ∨ i = 6 ∨ i = 7 ∨ i = 8 ∨ i = 9 ∨ i = 10 ∨ i = 11 ∨ i = 12) with rfl | rfl | rfl | rfl | rfl | rfl | rfl | rfl | rfl | rfl | rfl | rfl | rfl <;> exact Nat.lt_of_lt_of_le (by decide : _ < 97) (Nat.le_refl 97)
            case s2 =>
              intro i x w1 w2 hb hU
              match i, hU with
              | 7, ⟨f0, f1, f2, f3, f4, f4l, f4c, f5, f5l, f5c, e, hl⟩ => exact ⟨f0, f1, f2, f3, f4, f4l, f4c, f5, f5l, f5c, e, hl.later hb⟩
              | 8, ⟨f0, f1, f2, f3, f4, f4l, f4c, f5, f5l, f5c, e, hl⟩ => exact ⟨f0, f1, f2, f3, f4, f4l, f4c, f5, f5l, f5c, e, hl.later hb⟩
              | 9, ⟨f0, f1, f2, f3, f4, f4l, f4c, f5, f5l, f5c, e, hl⟩ => exact ⟨f0, f1, f2, f3, f4, f4l, f4c, f5, f5l, f5c, e, hl.later hb⟩
              | 11, ⟨g, e, hz, hg⟩ => exact ⟨g, e, hz.later hb, hg⟩
              | 0, h | 1, h | 2, h | 3, h | 4, h | 5, h | 6, h | 10, h => exact h
              | (k + 12), _ => trivial
            case s3 =>
              intro i x w1 hi hU
              match i, hU with
              | 7, ⟨f0, f1, f2, f3, f4, f4l, f4c, f5, f5l, f5c, e, hl⟩ => exact ⟨f0, f1, f2, f3, f4, f4l, f4c, f5, f5l, f5c, e⟩
              | 8, ⟨f0, f1, f2, f3, f4, f4l, f4c, f5, f5l, f5c, e, hl⟩ => exact ⟨f0, f1, f2, f3, f4, f4l, f4c, f5, f5l, f5c, e⟩
              | 9, ⟨f0, f1, f2, f3, f4, f4l, f4c, f5, f5l, f5c, e, hl⟩ => exact ⟨f0, f1, f2, f3, f4, f4l, f4c, f5, f5l, f5c, e⟩
              | 11, ⟨g, e, hz, hg⟩ => exact ⟨g, e, hg⟩
              | 0, h | 1, h | 2, h | 3, h | 4, h | 5, h | 6, h | 10, h => exact h
              | (k + 12), _ => omega
            case s4 =>
              intro i x w1 hi hL hU
              obtain rfl : i = 10 := of_decide_eq_true hL
              exact hU
            case s5 =>
              intro i o ac wb K' ho hi hL hA hB hdep hK
              have sv3 : ac.tmps[3]?.getD undef = .pointer (some ⟨w.heap.size + 1, 0, none⟩) := hA.sl (t := 3) (by decide)
              have sv2 : ac.tmps[2]?.getD undef = .pointer (some ⟨w.heap.size, 0, none⟩) := hA.sl (t := 2) (by decide)
              have sv6 : ac.tmps[6]?.getD undef = .int .i64 j := hA.sl (t := 6) (by decide)
              have xb0 := cells_frame hB xb0
              have xb1 := cells_frame hB xb1
              have xb2 := cells_frame hB xb2
              have xb3 := cells_frame hB xb3
              have xb4 := cells_frame hB xb4
              have xb5 := cells_frame hB xb5
              have xa5 := cells_frame hB xa5
              have r0 := cells_frame hB r0
              have hL : i ≠ 10 := of_decide_eq_false hL
              rcases (by omega : i = 0 ∨ i = 1 ∨ i = 2 ∨ i = 3 ∨ i = 4 ∨ i = 5 ∨ i = 6 ∨ i = 7 ∨ i = 8 ∨ i = 9 ∨ i = 11) with rfl | rfl | rfl | rfl | rfl | rfl | rfl | rfl | rfl | rfl | rfl
              · simp at ho
                subst ho
                clear hdep hA
                go_simp
                exact hK _ wb (Below.refl _ _) rfl
              · simp at ho
                subst ho
                clear hdep hA
                go_simp
                exact hK _ wb (Below.refl _ _) rfl
              · simp at ho
                subst ho
                have z1 : ac.tmps[23]?.getD undef = .pointer (some ⟨w.heap.size, 5, none⟩) := hdep { on := 1, ground := .data } (by simp) rfl
                clear hdep hA
                go_simp
                exact hK _ wb (Below.refl _ _) rfl
              · simp at ho
                subst ho
                clear hdep hA
                go_simp
                exact hK _ wb (Below.refl _ _) rfl
              · simp at ho
                subst ho
                have z2 : ac.tmps[24]?.getD undef = .slice (some ⟨bl, ol, none⟩) m1.length mc1 := hdep { on := 2, ground := .data } (by simp) rfl
                have z3 : ac.tmps[25]?.getD undef = .int .i64 j := hdep { on := 3, ground := .data } (by simp) rfl
                clear hdep hA
                go_simp
                exact hK _ wb (Below.refl _ _) rfl
              · simp at ho
                subst ho
                have z4 : ac.tmps[26]?.getD undef = .pointer (some ⟨bl, ol + j * 7, none⟩) := hdep { on := 4, ground := .data } (by simp) rfl
                clear hdep hA
                go_simp
                exact hK _ wb (Below.refl _ _) rfl
              · simp at ho
                subst ho
                have z5 : ac.tmps[27]?.getD undef = .pointer (some ⟨bl, ol + j * 7, none⟩) := hdep { on := 5, ground := .data } (by simp) rfl
                clear hdep hA
                go_simp
                exact hK _ wb (Below.refl _ _) rfl
              · simp at ho
                subst ho
                have z0 : ac.tmps[22]?.getD undef = .agg #[.int .i64 5, .bool b, .int .i64 n, .string s, .slice la l.length lc, .slice ma m.length mc] := hdep { on := 0, ground := .data } (by simp) rfl
                have z6 : ac.tmps[28]?.getD undef = .string m1[j].1 := hdep { on := 6, ground := .data } (by simp) rfl
                clear hdep hA
                go_simp
                refine (CT.out wb hB).mono ?_
                rintro e w5 ⟨f0, f1, f2, f3, f4, f4l, f4c, f5, f5l, f5c, rfl, hl, hb5⟩
                exact hK _ w5 hb5 ⟨f0, f1, f2, f3, f4, f4l, f4c, f5, f5l, f5c, rfl, hl⟩
              · simp at ho
                subst ho
                obtain ⟨f0, f1, f2, f3, f4, f4l, f4c, f5, f5l, f5c, z7, hl⟩ := hdep { on := 7, ground := .data } (by simp) rfl
                have z7 : ac.tmps[29]?.getD undef = .tuple #[.agg #[.int .i64 f0, .bool f1, .int .i64 f2, .string f3, .slice f4 f4l f4c, .slice f5 f5l f5c], .bool false] := z7
                clear hdep hA
                go_simp
                exact hK _ wb (Below.refl _ _) ⟨f0, f1, f2, f3, f4, f4l, f4c, f5, f5l, f5c, rfl, hl⟩
              · simp at ho
                subst ho
                obtain ⟨f0, f1, f2, f3, f4, f4l, f4c, f5, f5l, f5c, z7, hl⟩ := hdep { on := 8, ground := .data } (by simp) rfl
                have z7 : ac.tmps[21]?.getD undef = .tuple #[.agg #[.int .i64 f0, .bool f1, .int .i64 f2, .string f3, .slice f4 f4l f4c, .slice f5 f5l f5c], .bool false] := z7
                clear hdep hA
                go_simp
                exact hK _ wb (Below.refl _ _) ⟨f0, f1, f2, f3, f4, f4l, f4c, f5, f5l, f5c, rfl, hl⟩
              · simp at ho
                subst ho
                clear hdep hA
                go_simp
                exact hK _ _ ((Below.refl _ _).alloc (Nat.le_refl _) _) ⟨wb.heap.size, rfl, ZB.new wb, hB.size⟩
            case s6 =>
              intro i o ac wb K' ho hi hL hA hdep hK
              obtain rfl : i = 10 := of_decide_eq_true hL
              simp at ho
              subst ho
              obtain ⟨f0, f1, f2, f3, f4, f4l, f4c, f5, f5l, f5c, z8⟩ := hdep { on := 8, ground := .data } (by simp) rfl
              have z8 : ac.tmps[21]?.getD undef = .tuple #[.agg #[.int .i64 f0, .bool f1, .int .i64 f2, .string f3, .slice f4 f4l f4c, .slice f5 f5l f5c], .bool false] := z8
              clear hdep hA
              go_simp
              exact hK _ rfl
            case s7 =>
              intro o ac wb K' ho hA hB hU hK
              simp at ho
              subst ho
              obtain ⟨f0, f1, f2, f3, f4, f4l, f4c, f5, f5l, f5c, z9, hl⟩ := hU 9 (by omega) (by decide)
              obtain ⟨g, z11, hzb, hg⟩ := hU 11 (by omega) (by decide)
              have z9 : ac.tmps[30]?.getD undef = .agg #[.int .i64 f0, .bool f1, .int .i64 f2, .string f3, .slice f4 f4l f4c, .slice f5 f5l f5c] := z9
              have z11' : ac.tmps[7]?.getD undef = .pointer (some ⟨g, 0, none⟩) := z11
              have zc : ∀ j, wb.cell? ⟨g, j, none⟩ = (#[.int .i64 0, .bool false, .int .i64 0, .string ⟨#[]⟩, .slice none 0 0, .slice none 0 0] : Array Value)[j]? := hzb.cell
              have zf := hzb.frozen
              have hbx := hzb.box.row (.int .i64 f0) (.bool f1) (.int .i64 f2) (.string f3) (.slice f4 f4l f4c) (.slice f5 f5l f5c)
              have hlt := hzb.lt
              have hlz := Lib.hid hl
              clear hU hA hl
              go_simp
              exact hK _ ⟨g, f0, f1, f2, f3, f4, f4l, f4c, f5, f5l, f5c, z11, hbx, (hlz.out.keepB (fun x hx _ => setRow_heap g [.int .i64 f0, .bool f1, .int .i64 f2, .string f3, .slice f4 f4l f4c, .slice f5 f5l f5c] wb 0 x (by have := hx.2; omega))).weaken (fun x hx => hx.1), hg, by show _ < (setRow wb g 0 [.int .i64 f0, .bool f1, .int .i64 f2, .string f3, .slice f4 f4l f4c, .slice f5 f5l f5c]).heap.size; rw [setRow_size]; exact hlt, setRow_below g hg [.int .i64 f0, .bool f1, .int .i64 f2, .string f3, .slice f4 f4l f4c, .slice f5 f5l f5c] wb 0 hB⟩
            case s8 =>
              intro o ac wb K' ho hA hVV hK
              simp at ho
              subst ho
              have z10 : ac.tmps[31]?.getD undef = .bool false := hVV 10 (by omega)
              clear hVV hA
              go_simp
              exact hK _ rfl
            case s9 =>
              intro ac wn hA hVV hF
              obtain ⟨g, f0, f1, f2, f3, f4, f4l, f4c, f5, f5l, f5c, z11, XF, HF, hg, hgl, hbn⟩ := hF
              have z12 := hVV 12 (by omega)
              have hs : slots 13 (fun i => match i with | 0 => 22 | 1 => 23 | 2 => 24 | 3 => 25 | 4 => 26 | 5 => 27 | 6 => 28 | 7 => 29 | 8 => 21 | 9 => 30 | 10 => 31 | 11 => 7 | 12 => 8 | _ => 0) = [22, 23, 24, 25, 26, 27, 28, 29, 21, 30, 31, 7, 8] := by rfl
              rw [hs] at hA
              have hac := hA.act (fun t ht => by
                have h8 : t = 22 ∨ t = 23 ∨ t = 24 ∨ t = 25 ∨ t = 26 ∨ t = 27 ∨ t = 28 ∨ t = 29 ∨ t = 21 ∨ t = 30 ∨ t = 31 ∨ t = 7 ∨ t = 8 := by simpa using ht
                rcases h8 with rfl | rfl | rfl | rfl | rfl | rfl | rfl | rfl | rfl | rfl | rfl | rfl | rfl <;> exact Nat.lt_of_lt_of_le (by decide : _ < 97) (Nat.le_refl 97))
              rw [List.foldl_cons, List.foldl_cons, List.foldl_cons, List.foldl_cons, List.foldl_cons, List.foldl_cons, List.foldl_cons, List.foldl_cons, List.foldl_cons, List.foldl_cons, List.foldl_cons, List.foldl_cons, List.foldl_cons, List.foldl_nil] at hac
              have z11 : sl ac 7 = .pointer (some ⟨g, 0, none⟩) := z11
              have z12 : sl ac 8 = .bool false := z12
              rw [z11, z12] at hac
              generalize sl ac 22 = x22 at hac
              generalize sl ac 23 = x23 at hac
              generalize sl ac 24 = x24 at hac
              generalize sl ac 25 = x25 at hac
              generalize sl ac 26 = x26 at hac
              generalize sl ac 27 = x27 at hac
              generalize sl ac 28 = x28 at hac
              generalize sl ac 29 = x29 at hac
              generalize sl ac 21 = x21 at hac
              generalize sl ac 30 = x30 at hac
              generalize sl ac 31 = x31 at hac
              clear hA hs hVV z11 z12
              subst hac
              simp only [Act.put, List.setIfInBounds_toArray, List.set_cons_succ, List.set_cons_zero]

              clear XF HF CT hgl
              have HBOX0 := HBOX
              have HBOX : Hid (BoxA wn (w.heap.size + 1 + 1 + 1) (.int .i64 t0) (.bool t1) (.int .i64 t2) (.string t3) (.slice t4 t4l t4c) (.slice t5 t5l t5c)) := Lib.hid (HBOX0.out.later hbn)
              have HLI0 := HLI
              have HLI := Lib.hid (HLI0.out.later hbn)
              have HFZ0 := HFZ
              have HFZ : Hid (∀ k, wn.frozen? ⟨w.heap.size + 1 + 1 + 1, k, none⟩ = false) := fun k => (hbn.frozen (p := ⟨w.heap.size + 1 + 1 + 1, k, none⟩) hbl).trans (HFZ0.out k)
              have KP0 := KP
              have KP : Hid (∀ b, b < v.heap.size → b ≠ w.heap.size + 3 → wn.heap[b]? = v.heap[b]?) := fun b hb hn => (hbn.block b (by omega)).trans (KP0.out b hb hn)
              have hsn : v.heap.size ≤ wn.heap.size := Nat.le_trans hsz hbn.size
              have HBW0 := HBW
              have HBW : Hid (Below w.heap.size w wn) := bstep HBW0.out hbn HBW0.out.size
              have xa5 := cells_frame hbn xa5
              have r0 := cells_frame hbn r0
              have hbl : w.heap.size + 1 + 1 + 1 < wn.heap.size := Nat.lt_of_lt_of_le hbl hbn.size
              have hbl2 : w.heap.size + 3 < wn.heap.size := hbl
              have HX : Hid (Lies wn (fun b => ((R1 b ∨ (R2 b ∧ b < w0.heap.size)) ∧ b < w1.heap.size) ∨ w.heap.size + 3 < b) T.nil #[.int .i64 0, .bool false, .int .i64 0, .string ⟨#[]⟩, .slice none 0 0, .slice none 0 0]) := nil_lies _ _
              clear HBOX0 HLI0 HFZ0 KP0 HBW0 xa0 xa1 xa2 xa3 xa4 xb0 xb1 xb2 xb3 xb4 xb5 hbr hbn hsz hg
              have hsz := hsn
              go_upto_region 7 with fail
              refine wp_region_specs2 wn 9 (fun i => 34 + i) (fun i x wx => match i with | 0 => x = .agg #[.int .i64 t0, .bool t1, .int .i64 t2, .string t3, .slice t4 t4l t4c, .slice t5 t5l t5c] | 1 => x = .pointer (some ⟨w.heap.size, 5, none⟩) | 2 => x = .slice (some ⟨bl, ol, none⟩) m1.length mc1 | 3 => x = .int .i64 j | 4 => x = .pointer (some ⟨bl, ol + j * 7, none⟩) | 5 => x = .pointer (some ⟨bl, ol + j * 7, none⟩) | 6 => x = .string m1[j].1 | 7 => x = .agg #[.int .i64 0, .bool false, .int .i64 0, .string ⟨#[]⟩, .slice none 0 0, .slice none 0 0] | 8 => ∃ ds : Array Value, x = .agg ds ∧ Lies wx (fun b => ((R1 b ∨ (R2 b ∧ b < w0.heap.size)) ∧ b < w1.heap.size) ∨ w.heap.size + 3 < b) (mk5 (putR m1[j].1 T.nil o)) ds | _ => True) (fun _ wx => ∃ (t0 : Int) (t1 : Bool) (t2 : Int) (t3 : ByteArray) (t4 : Option Addr) (t4l t4c : Nat) (t5 : Option Addr) (t5l t5c : Nat), BoxA wx (w.heap.size + 1 + 1 + 1) (.int .i64 t0) (.bool t1) (.int .i64 t2) (.string t3) (.slice t4 t4l t4c) (.slice t5 t5l t5c) ∧ Hid (Lies wx (fun b => ((R1 b ∨ (R2 b ∧ b < w0.heap.size)) ∧ b < w1.heap.size) ∨ w.heap.size + 3 < b) (mk5 (putR m1[j].1 T.nil o)) #[.int .i64 t0, .bool t1, .int .i64 t2, .string t3, .slice t4 t4l t4c, .slice t5 t5l t5c]) ∧ Hid (∀ k, wx.frozen? ⟨w.heap.size + 1 + 1 + 1, k, none⟩ = false) ∧ Hid (∀ b, b < v.heap.size → b ≠ w.heap.size + 3 → wx.heap[b]? = v.heap[b]?) ∧ v.heap.size ≤ wx.heap.size ∧ Hid (Below w.heap.size w wx)) (by kernel_rfl) (by kernel_rfl) ?s1 (Below.refl _ _) ?s2 ?s3 ?s4 ?s5
              case s1 => intro i hi; exact Nat.lt_of_lt_of_le (show 34 + i < 97 by omega) (Nat.le_refl 97)
              case s2 =>
                intro i x w1 w2 hb hU
                match i, hU with
                | 8, ⟨ds, e, hl⟩ => exact ⟨ds, e, hl.later hb⟩
                | 0, h | 1, h | 2, h | 3, h | 4, h | 5, h | 6, h | 7, h => exact h
                | (n + 9), _ => trivial
              case s3 =>
                intro i o ac wb K' ho hi hA hB hdep hK
                have sv2 : ac.tmps[2]?.getD undef = .pointer (some ⟨w.heap.size, 0, none⟩) := hA.sl (t := 2) (by decide)
                have sv5 : ac.tmps[5]?.getD undef = .pointer (some ⟨w.heap.size + 1 + 1 + 1, 0, none⟩) := hA.sl (t := 5) (by decide)
                have sv6 : ac.tmps[6]?.getD undef = .int .i64 j := hA.sl (t := 6) (by decide)
                obtain ⟨xm0, xm1, xm2, xm3, xm4, xm5⟩ := HBOX.out.later hB
                have xa5 := cells_frame hB xa5
                have r0 := cells_frame hB r0
                rcases (by omega : i = 0 ∨ i = 1 ∨ i = 2 ∨ i = 3 ∨ i = 4 ∨ i = 5 ∨ i = 6 ∨ i = 7 ∨ i = 8) with rfl | rfl | rfl | rfl | rfl | rfl | rfl | rfl | rfl
                · simp at ho
                  subst ho
                  clear hdep hA
                  go_simp
                  exact hK _ wb (Below.refl _ _) rfl
                · simp at ho
                  subst ho
                  clear hdep hA
                  go_simp
                  exact hK _ wb (Below.refl _ _) rfl
                · simp at ho
                  subst ho
                  have y1 : ac.tmps[35]?.getD undef = .pointer (some ⟨w.heap.size, 5, none⟩) := hdep { on := 1, ground := .data } (by simp) rfl
                  clear hdep hA
                  go_simp
                  exact hK _ wb (Below.refl _ _) rfl
                · simp at ho
                  subst ho
                  clear hdep hA
                  go_simp
                  exact hK _ wb (Below.refl _ _) rfl
                · simp at ho
                  subst ho
                  have y2 : ac.tmps[36]?.getD undef = .slice (some ⟨bl, ol, none⟩) m1.length mc1 := hdep { on := 2, ground := .data } (by simp) rfl
                  have y3 : ac.tmps[37]?.getD undef = .int .i64 j := hdep { on := 3, ground := .data } (by simp) rfl
                  clear hdep hA
                  go_simp
                  exact hK _ wb (Below.refl _ _) rfl
                · simp at ho
                  subst ho
                  have y4 : ac.tmps[38]?.getD undef = .pointer (some ⟨bl, ol + j * 7, none⟩) := hdep { on := 4, ground := .data } (by simp) rfl
                  clear hdep hA
                  go_simp
                  exact hK _ wb (Below.refl _ _) rfl
                · simp at ho
                  subst ho
                  have y5 : ac.tmps[39]?.getD undef = .pointer (some ⟨bl, ol + j * 7, none⟩) := hdep { on := 5, ground := .data } (by simp) rfl
                  clear hdep hA
                  go_simp
                  exact hK _ wb (Below.refl _ _) rfl
                · simp at ho
                  subst ho
                  clear hdep hA
                  go_simp
                  exact hK _ wb (Below.refl _ _) rfl
                · simp at ho
                  subst ho
                  have y0 : ac.tmps[34]?.getD undef = .agg #[.int .i64 t0, .bool t1, .int .i64 t2, .string t3, .slice t4 t4l t4c, .slice t5 t5l t5c] := hdep { on := 0, ground := .data } (by simp) rfl
                  have y6 : ac.tmps[40]?.getD undef = .string m1[j].1 := hdep { on := 6, ground := .data } (by simp) rfl
                  have y7 : ac.tmps[41]?.getD undef = .agg #[.int .i64 0, .bool false, .int .i64 0, .string ⟨#[]⟩, .slice none 0 0, .slice none 0 0] := hdep { on := 7, ground := .data } (by simp) rfl
                  clear hdep hA
                  go_simp
                  refine (rPut_any HLI.out HX.out m1[j].1 hko hol wb hB).mono ?_
                  rintro e w5 ⟨ds, rfl, hL, hb5⟩
                  have hL := hL
                  rw [HNW.out] at hL
                  have hbs := hB.size
                  refine hK _ w5 hb5 ⟨ds, rfl, hL.weaken fun b hb => ?_⟩
                  rcases hb with ⟨h | h, h2⟩ | h
                  · exact h
                  · exact h
                  · exact .inr (by omega)
              case s4 =>
                intro o ac wb K' ho hA hB hU hK
                have sv2 : ac.tmps[2]?.getD undef = .pointer (some ⟨w.heap.size, 0, none⟩) := hA.sl (t := 2) (by decide)
                have sv5 : ac.tmps[5]?.getD undef = .pointer (some ⟨w.heap.size + 1 + 1 + 1, 0, none⟩) := hA.sl (t := 5) (by decide)
                have sv6 : ac.tmps[6]?.getD undef = .int .i64 j := hA.sl (t := 6) (by decide)
                obtain ⟨xm0, xm1, xm2, xm3, xm4, xm5⟩ := HBOX.out.later hB
                have xa5 := cells_frame hB xa5
                have r0 := cells_frame hB r0
                simp at ho
                subst ho
                obtain ⟨ds, y8, hL⟩ := hU 8 (by omega)
                obtain ⟨q0, q1, q2, q3, q4, q4l, q4c, q5, q5l, q5c, rfl⟩ := hL.six
                have y8 : ac.tmps[42]?.getD undef = .agg #[.int .i64 q0, .bool q1, .int .i64 q2, .string q3, .slice q4 q4l q4c, .slice q5 q5l q5c] := y8
                clear hU hA
                have yf : ∀ k, wb.frozen? ⟨w.heap.size + 1 + 1 + 1, k, none⟩ = false := fun k => (hB.frozen (p := ⟨w.heap.size + 1 + 1 + 1, k, none⟩) hbl).trans (HFZ.out k)
                have YF := Lib.hid yf
                have ybx := HBOX.out.later hB
                have HLQ := Lib.hid hL
                clear xa5 r0 hL
                go_simp
                refine hK _ ⟨q0, q1, q2, q3, q4, q4l, q4c, q5, q5l, q5c, ybx.row _ _ _ _ _ _, (HLQ.out.bound.keepB (fun x hx hlt => setRow_heap _ [.int .i64 q0, .bool q1, .int .i64 q2, .string q3, .slice q4 q4l q4c, .slice q5 q5l q5c] _ _ _ (by
                    rcases hx.1 with h | h
                    · have := h.2; omega
                    · omega))).weaken (fun x hx => hx.1.1), (fun k => (setRow_frozen _ [.int .i64 q0, .bool q1, .int .i64 q2, .string q3, .slice q4 q4l q4c, .slice q5 q5l q5c] _ _ _).trans (YF.out k)), (fun b hb hn => (setRow_heap _ [.int .i64 q0, .bool q1, .int .i64 q2, .string q3, .slice q4 q4l q4c, .slice q5 q5l q5c] _ _ _ hn).trans ((hB.block b (by omega)).trans (KP.out b hb hn))), ?_, setRow_below _ (Nat.le_add_right w.heap.size 3) [.int .i64 q0, .bool q1, .int .i64 q2, .string q3, .slice q4 q4l q4c, .slice q5 q5l q5c] _ _ (bstep HBW.out hB HBW.out.size)⟩
                have h1 := setRow_size (w.heap.size + 1 + 1 + 1) [.int .i64 q0, .bool q1, .int .i64 q2, .string q3, .slice q4 q4l q4c, .slice q5 q5l q5c] wb 0
                have h2 := hB.size
                exact Nat.le_trans (by omega : v.heap.size ≤ wb.heap.size) (Nat.le_of_eq h1.symm)
              case s5 =>
                intro ac wn hA hF
                have hs : slots 9 (fun i => 34 + i) = [34, 35, 36, 37, 38, 39, 40, 41, 42] := by rfl
                rw [hs] at hA
                have hac := hA.act (fun t ht => by
                  have h8 : t = 34 ∨ t = 35 ∨ t = 36 ∨ t = 37 ∨ t = 38 ∨ t = 39 ∨ t = 40 ∨ t = 41 ∨ t = 42 := by simpa using ht
                  rcases h8 with rfl | rfl | rfl | rfl | rfl | rfl | rfl | rfl | rfl <;> exact Nat.lt_of_lt_of_le (by decide : _ < 97) (Nat.le_refl 97))
                rw [List.foldl_cons, List.foldl_cons, List.foldl_cons, List.foldl_cons, List.foldl_cons, List.foldl_cons, List.foldl_cons, List.foldl_cons, List.foldl_cons, List.foldl_nil] at hac
                generalize sl ac 34 = x34 at hac
                generalize sl ac 35 = x35 at hac
                generalize sl ac 36 = x36 at hac
                generalize sl ac 37 = x37 at hac
                generalize sl ac 38 = x38 at hac
                generalize sl ac 39 = x39 at hac
                generalize sl ac 40 = x40 at hac
                generalize sl ac 41 = x41 at hac
                generalize sl ac 42 = x42 at hac
                clear hA hs
                subst hac
                simp only [Act.put, List.setIfInBounds_toArray, List.set_cons_succ, List.set_cons_zero]

                obtain ⟨n0, n1, n2, n3, n4, n4l, n4c, n5, n5l, n5c, NB, NL, NF, NK, NS, NW⟩ := hF
                have NB' := Lib.hid NB
                clear NB HLI HFZ KP HBW HBOX xa5 r0 hbl hbl2 HX
                go_wp2_with fail
                go_roundw
                case rel => exact ⟨j + 1, _, n0, n1, n2, n3, n4, n4l, n4c, n5, n5l, n5c, by omega, by go_num, HRN, NB'.out, NL, NF, NK, NS, NW⟩
                case measure => simp [intOf]; omega

        · obtain rfl : j = m1.length := by omega
          have HR2 := Lib.hid HRD.out.done
          clear HRD xa0 xa1 xa2 xa3 xa4 xb0 xb1 xb2 xb3 xb4 xb5
          go_wp2_with fail
          clear xa5 hbr hbl hbl2
          go_loopw [9] (fun vi wr => ∃ (j : Nat) (o : Prs) (t0 : Int) (t1 : Bool) (t2 : Int) (t3 : ByteArray) (t4 : Option Addr) (t4l t4c : Nat) (t5 : Option Addr) (t5l t5c : Nat), j ≤ m.length ∧ vi = .int .i64 j ∧ Hid (RD2 m1 m j o) ∧ BoxA wr (w.heap.size + 1 + 1 + 1) (.int .i64 t0) (.bool t1) (.int .i64 t2) (.string t3) (.slice t4 t4l t4c) (.slice t5 t5l t5c) ∧ Hid (Lies wr (fun b => ((R1 b ∨ (R2 b ∧ b < w0.heap.size)) ∧ b < w1.heap.size) ∨ w.heap.size + 3 < b) (mk5 (o)) #[.int .i64 t0, .bool t1, .int .i64 t2, .string t3, .slice t4 t4l t4c, .slice t5 t5l t5c]) ∧ Hid (∀ k, wr.frozen? ⟨w.heap.size + 1 + 1 + 1, k, none⟩ = false) ∧ Hid (∀ b, b < v.heap.size → b ≠ w.heap.size + 3 → wr.heap[b]? = v.heap[b]?) ∧ v.heap.size ≤ wr.heap.size ∧ Hid (Below w.heap.size w wr)) (fun vi _ => m.length - (intOf vi).toNat)
          case atStart => exact ⟨0, o, t0, t1, t2, t3, t4, t4l, t4c, t5, t5l, t5c, by omega, rfl, HR2, HBOX.out, HLI, HFZ, KP, hsz, HBW⟩
          case round =>
            clear HBOX HLI HFZ KP hsz HBW HR2
            clear o t0 t1 t2 t3 t4 t4l t4c t5 t5l t5c
            obtain ⟨j, o, t0, t1, t2, t3, t4, t4l, t4c, t5, t5l, t5c, hj, rfl, HRD, hbox, HLI, HFZ, KP, hsz, HBW⟩ := hrel
            have hbr := bstep hw HBW.out hw.size
            have hb0 := bstep H01.out hbr H01.out.size
            have HBOX := Lib.hid hbox
            have hbl := hbox.lt
            have hbl2 : w.heap.size + 3 < wr.heap.size := hbl
            clear hbox
            obtain ⟨xa0, xa1, xa2, xa3, xa4, xa5⟩ := BXA.out.block (KP.out w.heap.size (by omega) (by omega))
            obtain ⟨xb0, xb1, xb2, xb3, xb4, xb5⟩ := BXB.out.block (KP.out (w.heap.size + 1) (by omega) (by omega))
            by_cases hjl : j < m.length
            · obtain ⟨bm, om, hma, _⟩ := HM.out.hdr.some (by omega)
              subst hma
              obtain ⟨bm2, om2, d0, d1, d2, d3, d4, d4l, d4c, d5, d5l, d5c, e2, hc, p0, p1, p2, p3, p4, p5, p6⟩ := openM hb0 HM.out.hdr HM.out.rows hjl (HM.out.each j hjl)
              obtain ⟨rfl, rfl⟩ : bm = bm2 ∧ om = om2 := by simpa using e2
              have hLd := HM.out.each j hjl
              rw [hc] at hLd
              have kj : m[j].2.kind = d0 := lies_kind hLd
              have HLD := Lib.hid (hLd.bound.later hb0)
              have IHj := fun (w1 : World) (R1 : Nat → Prop) (t : T) (cs : Array Value) => IH.out j hjl (w1 := w1) (R1 := R1) (t := t) (cs := cs)
              rw [hc] at IHj
              have IHJ := Lib.hid IHj
              have hko := HM.out.keys j hjl
              have hol : (mk5 o).map.length ≤ 1000000 := by have := HRD.out.len; show o.length ≤ _; omega
              have XB5 := Lib.hid xb5
              have P0 := Lib.hid p0
              clear hc e2 hLd IHj
              cases hr : findR m[j].1 m1 with
              | none =>
                have CT : Hid (∀ wb, Below wr.heap.size wr wb → Calls Try.prog 9 #[.agg #[.int .i64 5, .bool b1, .int .i64 n1, .string s1, .slice la1 l1.length lc1, .slice ma1 m1.length mc1], .string m[j].1] wb fun e w' => ∃ (f0 : Int) (f1 : Bool) (f2 : Int) (f3 : ByteArray) (f4 : Option Addr) (f4l f4c : Nat) (f5 : Option Addr) (f5l f5c : Nat), e = .returned (.tuple #[.agg #[.int .i64 f0, .bool f1, .int .i64 f2, .string f3, .slice f4 f4l f4c, .slice f5 f5l f5c], .bool false]) ∧ Lies w' (fun b => R1 b ∧ b < w1.heap.size) T.nil #[.int .i64 f0, .bool f1, .int .i64 f2, .string f3, .slice f4 f4l f4c, .slice f5 f5l f5c] ∧ Below wb.heap.size wb w') := fun wb hb => by
                  have h := rGet_any HT.out m[j].1 wb (bstep hbr hb hbr.size)
                  rw [show findR m[j].1 (T.mk 5 b1 n1 s1 l1 m1).map = none from hr] at h
                  refine h.mono ?_
                  rintro e w' ⟨ds, rfl, hL, hb2⟩
                  obtain ⟨f0, f1, f2, f3, f4, f4l, f4c, f5, f5l, f5c, rfl⟩ := hL.six
                  exact ⟨f0, f1, f2, f3, f4, f4l, f4c, f5, f5l, f5c, rfl, hL.weaken fun b hb => hb, hb2⟩
                have hnd : diffAt (findR m[j].1 m1) (some m[j].2) = some m[j].2 := diffAt_other (by rw [hr]; exact fun h => absurd h.1 (by decide)) (fun e => by have := (HDA.out j hjl).1 e; rw [hr] at this; cases this)
                have HRN := Lib.hid (HRD.out.put HAM.out.2 hjl hnd)
                have HNW : Hid (mk5 (rputG m[j].1 m[j].2 false (mk5 o).map) = mk5 (putR m[j].1 m[j].2 o)) := by
                  show _ = _
                  rw [show (mk5 o).map = o from rfl, rputG_put _ _ HRD.out.asc]
                clear hr hnd
                go_upto_region 11 with fail
                refine wp_region_specsL wr 12 11 (fun i => match i with | 0 => 51 | 1 => 52 | 2 => 53 | 3 => 54 | 4 => 55 | 5 => 56 | 6 => 57 | 7 => 58 | 8 => 50 | 9 => 59 | 10 => 60 | 11 => 10 | 12 => 11 | _ => 0) (fun i => decide (i = 10)) (fun i x wx => match i with | 0 => x = .agg #[.int .i64 5, .bool b1, .int .i64 n1, .string s1, .slice la1 l1.length lc1, .slice ma1 m1.length mc1] | 1 => x = .pointer (some ⟨w.heap.size + 1, 5, none⟩) | 2 => x = .slice (some ⟨bm, om, none⟩) m.length mc | 3 => x = .int .i64 j | 4 => x = .pointer (some ⟨bm, om + j * 7, none⟩) | 5 => x = .pointer (some ⟨bm, om + j * 7, none⟩) | 6 => x = .string m[j].1 | 7 => ∃ (f0 : Int) (f1 : Bool) (f2 : Int) (f3 : ByteArray) (f4 : Option Addr) (f4l f4c : Nat) (f5 : Option Addr) (f5l f5c : Nat), x = .tuple #[.agg #[.int .i64 f0, .bool f1, .int .i64 f2, .string f3, .slice f4 f4l f4c, .slice f5 f5l f5c], .bool false]  ∧ Lies wx (fun b => R1 b ∧ b < w1.heap.size) T.nil #[.int .i64 f0, .bool f1, .int .i64 f2, .string f3, .slice f4 f4l f4c, .slice f5 f5l f5c] | 8 => ∃ (f0 : Int) (f1 : Bool) (f2 : Int) (f3 : ByteArray) (f4 : Option Addr) (f4l f4c : Nat) (f5 : Option Addr) (f5l f5c : Nat), x = .tuple #[.agg #[.int .i64 f0, .bool f1, .int .i64 f2, .string f3, .slice f4 f4l f4c, .slice f5 f5l f5c], .bool false]  ∧ Lies wx (fun b => R1 b ∧ b < w1.heap.size) T.nil #[.int .i64 f0, .bool f1, .int .i64 f2, .string f3, .slice f4 f4l f4c, .slice f5 f5l f5c] | 9 => ∃ (f0 : Int) (f1 : Bool) (f2 : Int) (f3 : ByteArray) (f4 : Option Addr) (f4l f4c : Nat) (f5 : Option Addr) (f5l f5c : Nat), x = .agg #[.int .i64 f0, .bool f1, .int .i64 f2, .string f3, .slice f4 f4l f4c, .slice f5 f5l f5c] ∧ Lies wx (fun b => R1 b ∧ b < w1.heap.size) T.nil #[.int .i64 f0, .bool f1, .int .i64 f2, .string f3, .slice f4 f4l f4c, .slice f5 f5l f5c] | 10 => x = .bool false | 11 => ∃ g : Nat, x = .pointer (some ⟨g, 0, none⟩) ∧ ZB wx g ∧ wr.heap.size ≤ g | _ => True) (fun i x => match i with | 0 => x = .agg #[.int .i64 5, .bool b1, .int .i64 n1, .string s1, .slice la1 l1.length lc1, .slice ma1 m1.length mc1] | 1 => x = .pointer (some ⟨w.heap.size + 1, 5, none⟩) | 2 => x = .slice (some ⟨bm, om, none⟩) m.length mc | 3 => x = .int .i64 j | 4 => x = .pointer (some ⟨bm, om + j * 7, none⟩) | 5 => x = .pointer (some ⟨bm, om + j * 7, none⟩) | 6 => x = .string m[j].1 | 7 => ∃ (f0 : Int) (f1 : Bool) (f2 : Int) (f3 : ByteArray) (f4 : Option Addr) (f4l f4c : Nat) (f5 : Option Addr) (f5l f5c : Nat), x = .tuple #[.agg #[.int .i64 f0, .bool f1, .int .i64 f2, .string f3, .slice f4 f4l f4c, .slice f5 f5l f5c], .bool false]  | 8 => ∃ (f0 : Int) (f1 : Bool) (f2 : Int) (f3 : ByteArray) (f4 : Option Addr) (f4l f4c : Nat) (f5 : Option Addr) (f5l f5c : Nat), x = .tuple #[.agg #[.int .i64 f0, .bool f1, .int .i64 f2, .string f3, .slice f4 f4l f4c, .slice f5 f5l f5c], .bool false]  | 9 => ∃ (f0 : Int) (f1 : Bool) (f2 : Int) (f3 : ByteArray) (f4 : Option Addr) (f4l f4c : Nat) (f5 : Option Addr) (f5l f5c : Nat), x = .agg #[.int .i64 f0, .bool f1, .int .i64 f2, .string f3, .slice f4 f4l f4c, .slice f5 f5l f5c] | 10 => x = .bool false | 11 => ∃ g : Nat, x = .pointer (some ⟨g, 0, none⟩) ∧ wr.heap.size ≤ g | 12 => x = .bool false | _ => True) (fun x wx => ∃ (g : Nat) (f0 : Int) (f1 : Bool) (f2 : Int) (f3 : ByteArray) (f4 : Option Addr) (f4l f4c : Nat) (f5 : Option Addr) (f5l f5c : Nat), x = .pointer (some ⟨g, 0, none⟩) ∧ Hid (BoxA wx g (.int .i64 f0) (.bool f1) (.int .i64 f2) (.string f3) (.slice f4 f4l f4c) (.slice f5 f5l f5c)) ∧ Hid (Lies wx (fun b => R1 b ∧ b < w1.heap.size) T.nil #[.int .i64 f0, .bool f1, .int .i64 f2, .string f3, .slice f4 f4l f4c, .slice f5 f5l f5c]) ∧ wr.heap.size ≤ g ∧ g < wx.heap.size ∧ Below wr.heap.size wr wx) (by kernel_rfl) (by kernel_rfl) ?s1 (by decide) (by decide) (Below.refl _ _) ?s2 ?s3 ?s4 ?s5 ?s6 ?s7 ?s8 ?s9
                case s1 => intro i hi; rcases (by omega : i = 0 ∨ i = 1 ∨ i = 2 ∨ i = 3 ∨ i = 4 ∨ i = 5 ∨ i = 6 ∨ i = 7 ∨ i = 8 ∨ i = 9 ∨ i = 10 ∨ i = 11 ∨ i = 12) with rfl | rfl | rfl | rfl | rfl | rfl | rfl | rfl | rfl | rfl | rfl | rfl | rfl <;> exact Nat.lt_of_lt_of_le (by decide : _ < 97) (Nat.le_refl 97)
                case s2 =>
                  intro i x w1 w2 hb hU
                  match i, hU with
                  | 7, ⟨f0, f1, f2, f3, f4, f4l, f4c, f5, f5l, f5c, e, hl⟩ => exact ⟨f0, f1, f2, f3, f4, f4l, f4c, f5, f5l, f5c, e, hl.later hb⟩
                  | 8, ⟨f0, f1, f2, f3, f4, f4l, f4c, f5, f5l, f5c, e, hl⟩ => exact ⟨f0, f1, f2, f3, f4, f4l, f4c, f5, f5l, f5c, e, hl.later hb⟩
                  | 9, ⟨f0, f1, f2, f3, f4, f4l, f4c, f5, f5l, f5c, e, hl⟩ => exact ⟨f0, f1, f2, f3, f4, f4l, f4c, f5, f5l, f5c, e, hl.later hb⟩
                  | 11, ⟨g, e, hz, hg⟩ => exact ⟨g, e, hz.later hb, hg⟩
                  | 0, h | 1, h | 2, h | 3, h | 4, h | 5, h | 6, h | 10, h => exact h
                  | (k + 12), _ => trivial
                case s3 =>
                  intro i x w1 hi hU
                  match i, hU with
                  | 7, ⟨f0, f1, f2, f3, f4, f4l, f4c, f5, f5l, f5c, e, hl⟩ => exact ⟨f0, f1, f2, f3, f4, f4l, f4c, f5, f5l, f5c, e⟩
                  | 8, ⟨f0, f1, f2, f3, f4, f4l, f4c, f5, f5l, f5c, e, hl⟩ => exact ⟨f0, f1, f2, f3, f4, f4l, f4c, f5, f5l, f5c, e⟩
                  | 9, ⟨f0, f1, f2, f3, f4, f4l, f4c, f5, f5l, f5c, e, hl⟩ => exact ⟨f0, f1, f2, f3, f4, f4l, f4c, f5, f5l, f5c, e⟩
                  | 11, ⟨g, e, hz, hg⟩ => exact ⟨g, e, hg⟩
                  | 0, h | 1, h | 2, h | 3, h | 4, h | 5, h | 6, h | 10, h => exact h
                  | (k + 12), _ => omega
                case s4 =>
                  intro i x w1 hi hL hU
                  obtain rfl : i = 10 := of_decide_eq_true hL
                  exact hU
                case s5 =>
                  intro i o ac wb K' ho hi hL hA hB hdep hK
                  have sv2 : ac.tmps[2]?.getD undef = .pointer (some ⟨w.heap.size, 0, none⟩) := hA.sl (t := 2) (by decide)
                  have sv3 : ac.tmps[3]?.getD undef = .pointer (some ⟨w.heap.size + 1, 0, none⟩) := hA.sl (t := 3) (by decide)
                  have sv9 : ac.tmps[9]?.getD undef = .int .i64 j := hA.sl (t := 9) (by decide)
                  have xa0 := cells_frame hB xa0
                  have xa1 := cells_frame hB xa1
                  have xa2 := cells_frame hB xa2
                  have xa3 := cells_frame hB xa3
                  have xa4 := cells_frame hB xa4
                  have xa5 := cells_frame hB xa5
                  have xb5 := cells_frame hB xb5
                  have p0 := cells_frame hB p0
                  have hL : i ≠ 10 := of_decide_eq_false hL
                  rcases (by omega : i = 0 ∨ i = 1 ∨ i = 2 ∨ i = 3 ∨ i = 4 ∨ i = 5 ∨ i = 6 ∨ i = 7 ∨ i = 8 ∨ i = 9 ∨ i = 11) with rfl | rfl | rfl | rfl | rfl | rfl | rfl | rfl | rfl | rfl | rfl
                  · simp at ho
                    subst ho
                    clear hdep hA
                    go_simp
                    exact hK _ wb (Below.refl _ _) rfl
                  · simp at ho
                    subst ho
                    clear hdep hA
                    go_simp
                    exact hK _ wb (Below.refl _ _) rfl
                  · simp at ho
                    subst ho
                    have z1 : ac.tmps[52]?.getD undef = .pointer (some ⟨w.heap.size + 1, 5, none⟩) := hdep { on := 1, ground := .data } (by simp) rfl
                    clear hdep hA
                    go_simp
                    exact hK _ wb (Below.refl _ _) rfl
                  · simp at ho
                    subst ho
                    clear hdep hA
                    go_simp
                    exact hK _ wb (Below.refl _ _) rfl
                  · simp at ho
                    subst ho
                    have z2 : ac.tmps[53]?.getD undef = .slice (some ⟨bm, om, none⟩) m.length mc := hdep { on := 2, ground := .data } (by simp) rfl
                    have z3 : ac.tmps[54]?.getD undef = .int .i64 j := hdep { on := 3, ground := .data } (by simp) rfl
                    clear hdep hA
                    go_simp
                    exact hK _ wb (Below.refl _ _) rfl
                  · simp at ho
                    subst ho
                    have z4 : ac.tmps[55]?.getD undef = .pointer (some ⟨bm, om + j * 7, none⟩) := hdep { on := 4, ground := .data } (by simp) rfl
                    clear hdep hA
                    go_simp
                    exact hK _ wb (Below.refl _ _) rfl
                  · simp at ho
                    subst ho
                    have z5 : ac.tmps[56]?.getD undef = .pointer (some ⟨bm, om + j * 7, none⟩) := hdep { on := 5, ground := .data } (by simp) rfl
                    clear hdep hA
                    go_simp
                    exact hK _ wb (Below.refl _ _) rfl
                  · simp at ho
                    subst ho
                    have z0 : ac.tmps[51]?.getD undef = .agg #[.int .i64 5, .bool b1, .int .i64 n1, .string s1, .slice la1 l1.length lc1, .slice ma1 m1.length mc1] := hdep { on := 0, ground := .data } (by simp) rfl
                    have z6 : ac.tmps[57]?.getD undef = .string m[j].1 := hdep { on := 6, ground := .data } (by simp) rfl
                    clear hdep hA
                    go_simp
                    refine (CT.out wb hB).mono ?_
                    rintro e w5 ⟨f0, f1, f2, f3, f4, f4l, f4c, f5, f5l, f5c, rfl, hl, hb5⟩
                    exact hK _ w5 hb5 ⟨f0, f1, f2, f3, f4, f4l, f4c, f5, f5l, f5c, rfl, hl⟩
                  · simp at ho
                    subst ho
                    obtain ⟨f0, f1, f2, f3, f4, f4l, f4c, f5, f5l, f5c, z7, hl⟩ := hdep { on := 7, ground := .data } (by simp) rfl
                    have z7 : ac.tmps[58]?.getD undef = .tuple #[.agg #[.int .i64 f0, .bool f1, .int .i64 f2, .string f3, .slice f4 f4l f4c, .slice f5 f5l f5c], .bool false] := z7
                    clear hdep hA
                    go_simp
                    exact hK _ wb (Below.refl _ _) ⟨f0, f1, f2, f3, f4, f4l, f4c, f5, f5l, f5c, rfl, hl⟩
                  · simp at ho
                    subst ho
                    obtain ⟨f0, f1, f2, f3, f4, f4l, f4c, f5, f5l, f5c, z7, hl⟩ := hdep { on := 8, ground := .data } (by simp) rfl
                    have z7 : ac.tmps[50]?.getD undef = .tuple #[.agg #[.int .i64 f0, .bool f1, .int .i64 f2, .string f3, .slice f4 f4l f4c, .slice f5 f5l f5c], .bool false] := z7
                    clear hdep hA
                    go_simp
                    exact hK _ wb (Below.refl _ _) ⟨f0, f1, f2, f3, f4, f4l, f4c, f5, f5l, f5c, rfl, hl⟩
                  · simp at ho
                    subst ho
                    clear hdep hA
                    go_simp
                    exact hK _ _ ((Below.refl _ _).alloc (Nat.le_refl _) _) ⟨wb.heap.size, rfl, ZB.new wb, hB.size⟩
                case s6 =>
                  intro i o ac wb K' ho hi hL hA hdep hK
                  obtain rfl : i = 10 := of_decide_eq_true hL
                  simp at ho
                  subst ho
                  obtain ⟨f0, f1, f2, f3, f4, f4l, f4c, f5, f5l, f5c, z8⟩ := hdep { on := 8, ground := .data } (by simp) rfl
                  have z8 : ac.tmps[50]?.getD undef = .tuple #[.agg #[.int .i64 f0, .bool f1, .int .i64 f2, .string f3, .slice f4 f4l f4c, .slice f5 f5l f5c], .bool false] := z8
                  clear hdep hA
                  go_simp
                  exact hK _ rfl
                case s7 =>
                  intro o ac wb K' ho hA hB hU hK
                  simp at ho
                  subst ho
                  obtain ⟨f0, f1, f2, f3, f4, f4l, f4c, f5, f5l, f5c, z9, hl⟩ := hU 9 (by omega) (by decide)
                  obtain ⟨g, z11, hzb, hg⟩ := hU 11 (by omega) (by decide)
                  have z9 : ac.tmps[59]?.getD undef = .agg #[.int .i64 f0, .bool f1, .int .i64 f2, .string f3, .slice f4 f4l f4c, .slice f5 f5l f5c] := z9
                  have z11' : ac.tmps[10]?.getD undef = .pointer (some ⟨g, 0, none⟩) := z11
                  have zc : ∀ j, wb.cell? ⟨g, j, none⟩ = (#[.int .i64 0, .bool false, .int .i64 0, .string ⟨#[]⟩, .slice none 0 0, .slice none 0 0] : Array Value)[j]? := hzb.cell
                  have zf := hzb.frozen
                  have hbx := hzb.box.row (.int .i64 f0) (.bool f1) (.int .i64 f2) (.string f3) (.slice f4 f4l f4c) (.slice f5 f5l f5c)
                  have hlt := hzb.lt
                  have hlz := Lib.hid hl
                  clear hU hA hl
                  go_simp
                  exact hK _ ⟨g, f0, f1, f2, f3, f4, f4l, f4c, f5, f5l, f5c, z11, hbx, (hlz.out.keepB (fun x hx _ => setRow_heap g [.int .i64 f0, .bool f1, .int .i64 f2, .string f3, .slice f4 f4l f4c, .slice f5 f5l f5c] wb 0 x (by have := hx.2; omega))).weaken (fun x hx => hx.1), hg, by show _ < (setRow wb g 0 [.int .i64 f0, .bool f1, .int .i64 f2, .string f3, .slice f4 f4l f4c, .slice f5 f5l f5c]).heap.size; rw [setRow_size]; exact hlt, setRow_below g hg [.int .i64 f0, .bool f1, .int .i64 f2, .string f3, .slice f4 f4l f4c, .slice f5 f5l f5c] wb 0 hB⟩
                case s8 =>
                  intro o ac wb K' ho hA hVV hK
                  simp at ho
                  subst ho
                  have z10 : ac.tmps[60]?.getD undef = .bool false := hVV 10 (by omega)
                  clear hVV hA
                  go_simp
                  exact hK _ rfl
                case s9 =>
                  intro ac wn hA hVV hF
                  obtain ⟨g, f0, f1, f2, f3, f4, f4l, f4c, f5, f5l, f5c, z11, XF, HF, hg, hgl, hbn⟩ := hF
                  have z12 := hVV 12 (by omega)
                  have hs : slots 13 (fun i => match i with | 0 => 51 | 1 => 52 | 2 => 53 | 3 => 54 | 4 => 55 | 5 => 56 | 6 => 57 | 7 => 58 | 8 => 50 | 9 => 59 | 10 => 60 | 11 => 10 | 12 => 11 | _ => 0) = [51, 52, 53, 54, 55, 56, 57, 58, 50, 59, 60, 10, 11] := by rfl
                  rw [hs] at hA
                  have hac := hA.act (fun t ht => by
                    have h8 : t = 51 ∨ t = 52 ∨ t = 53 ∨ t = 54 ∨ t = 55 ∨ t = 56 ∨ t = 57 ∨ t = 58 ∨ t = 50 ∨ t = 59 ∨ t = 60 ∨ t = 10 ∨ t = 11 := by simpa using ht
                    rcases h8 with rfl | rfl | rfl | rfl | rfl | rfl | rfl | rfl | rfl | rfl | rfl | rfl | rfl <;> exact Nat.lt_of_lt_of_le (by decide : _ < 97) (Nat.le_refl 97))
                  rw [List.foldl_cons, List.foldl_cons, List.foldl_cons, List.foldl_cons, List.foldl_cons, List.foldl_cons, List.foldl_cons, List.foldl_cons, List.foldl_cons, List.foldl_cons, List.foldl_cons, List.foldl_cons, List.foldl_cons, List.foldl_nil] at hac
                  have z11 : sl ac 10 = .pointer (some ⟨g, 0, none⟩) := z11
                  have z12 : sl ac 11 = .bool false := z12
                  rw [z11, z12] at hac
                  generalize sl ac 51 = x51 at hac
                  generalize sl ac 52 = x52 at hac
                  generalize sl ac 53 = x53 at hac
                  generalize sl ac 54 = x54 at hac
                  generalize sl ac 55 = x55 at hac
                  generalize sl ac 56 = x56 at hac
                  generalize sl ac 57 = x57 at hac
                  generalize sl ac 58 = x58 at hac
                  generalize sl ac 50 = x50 at hac
                  generalize sl ac 59 = x59 at hac
                  generalize sl ac 60 = x60 at hac
                  clear hA hs hVV z11 z12
                  subst hac
                  simp only [Act.put, List.setIfInBounds_toArray, List.set_cons_succ, List.set_cons_zero]
                  clear XF HF CT
                  have p0 := cells_frame hbn p0
                  have p1 := cells_frame hbn p1
                  have p2 := cells_frame hbn p2
                  have p3 := cells_frame hbn p3
                  have p4 := cells_frame hbn p4
                  have p5 := cells_frame hbn p5
                  have p6 := cells_frame hbn p6
                  have xb5 := cells_frame hbn xb5
                  have bD := bstep hbn ((Below.refl wn.heap.size wn).alloc (Nat.le_refl _) (.cells #[.int .i64 d0, .bool d1, .int .i64 d2, .string d3, .slice d4 d4l d4c, .slice d5 d5l d5c] 25)) hbn.size
                  clear xa0 xa1 xa2 xa3 xa4 xa5 xb0 xb1 xb2 xb3 xb4
                  go_upto_region 16 with fail
                  have b3 := bD
                  have XD : Hid (BoxA (wn.alloc (.cells #[.int .i64 d0, .bool d1, .int .i64 d2, .string d3, .slice d4 d4l d4c, .slice d5 d5l d5c] 25)) wn.heap.size (.int .i64 d0) (.bool d1) (.int .i64 d2) (.string d3) (.slice d4 d4l d4c) (.slice d5 d5l d5c)) := BoxA.new wn (.int .i64 d0) (.bool d1) (.int .i64 d2) (.string d3) (.slice d4 d4l d4c) (.slice d5 d5l d5c) 25
                  have HX : Hid (Lies (wn.alloc (.cells #[.int .i64 d0, .bool d1, .int .i64 d2, .string d3, .slice d4 d4l d4c, .slice d5 d5l d5c] 25)) (fun b => ((R1 b ∨ (R2 b ∧ b < w0.heap.size)) ∧ b < w1.heap.size) ∨ w.heap.size + 3 < b) m[j].2 #[.int .i64 d0, .bool d1, .int .i64 d2, .string d3, .slice d4 d4l d4c, .slice d5 d5l d5c]) := (HLD.out.later b3).weaken fun b hb => .inl ⟨.inr hb, by have := hb.2; omega⟩
                  have HBOX1 : Hid (BoxA (wn.alloc (.cells #[.int .i64 d0, .bool d1, .int .i64 d2, .string d3, .slice d4 d4l d4c, .slice d5 d5l d5c] 25)) (w.heap.size + 1 + 1 + 1) (.int .i64 t0) (.bool t1) (.int .i64 t2) (.string t3) (.slice t4 t4l t4c) (.slice t5 t5l t5c)) := Lib.hid (HBOX.out.later b3)
                  have HLI1 := Lib.hid (HLI.out.later b3)
                  have HFZ1 : Hid (∀ k, (wn.alloc (.cells #[.int .i64 d0, .bool d1, .int .i64 d2, .string d3, .slice d4 d4l d4c, .slice d5 d5l d5c] 25)).frozen? ⟨w.heap.size + 1 + 1 + 1, k, none⟩ = false) := fun k => (b3.frozen (p := ⟨w.heap.size + 1 + 1 + 1, k, none⟩) hbl).trans (HFZ.out k)
                  have KP1 : Hid (∀ b, b < v.heap.size → b ≠ w.heap.size + 3 → (wn.alloc (.cells #[.int .i64 d0, .bool d1, .int .i64 d2, .string d3, .slice d4 d4l d4c, .slice d5 d5l d5c] 25)).heap[b]? = v.heap[b]?) := fun b' hb' hn => (b3.block b' (by omega)).trans (KP.out b' hb' hn)
                  have SZ1 : v.heap.size ≤ (wn.alloc (.cells #[.int .i64 d0, .bool d1, .int .i64 d2, .string d3, .slice d4 d4l d4c, .slice d5 d5l d5c] 25)).heap.size := Nat.le_trans hsz b3.size
                  have HBW1 : Hid (Below w.heap.size w (wn.alloc (.cells #[.int .i64 d0, .bool d1, .int .i64 d2, .string d3, .slice d4 d4l d4c, .slice d5 d5l d5c] 25))) := bstep HBW.out b3 HBW.out.size
                  have hbl1 : w.heap.size + 1 + 1 + 1 < (wn.alloc (.cells #[.int .i64 d0, .bool d1, .int .i64 d2, .string d3, .slice d4 d4l d4c, .slice d5 d5l d5c] 25)).heap.size := Nat.lt_of_lt_of_le hbl b3.size
                  have xb51 : (wn.alloc (.cells #[.int .i64 d0, .bool d1, .int .i64 d2, .string d3, .slice d4 d4l d4c, .slice d5 d5l d5c] 25)).cell? ⟨w.heap.size + 1, 5, none⟩ = some (.slice (some ⟨bm, om, none⟩) m.length mc) := cells_frame b3 XB5.out
                  have p01 : (wn.alloc (.cells #[.int .i64 d0, .bool d1, .int .i64 d2, .string d3, .slice d4 d4l d4c, .slice d5 d5l d5c] 25)).cell? ⟨bm, om + j * 7, none⟩ = some (.string m[j].1) := cells_frame b3 P0.out
                  clear b3 bD hbn hg hgl p0 p1 p2 p3 p4 p5 p6 xb5
                  clear HBOX HLI HFZ KP HBW hbl hbl2 hsz hbr
                  generalize (wn.alloc (.cells #[.int .i64 d0, .bool d1, .int .i64 d2, .string d3, .slice d4 d4l d4c, .slice d5 d5l d5c] 25)) = wp at *
                  have HBOX := HBOX1
                  have HLI := HLI1
                  have HFZ := HFZ1
                  have KP := KP1
                  have HBW := HBW1
                  have hbl := hbl1
                  have hsz := SZ1
                  have hbl2 : w.heap.size + 3 < wp.heap.size := hbl1
                  have xb5 := xb51
                  have p0 := p01
                  clear HBOX1 HLI1 HFZ1 KP1 HBW1 hbl1 SZ1 xb51 p01
                  obtain ⟨xd0, xd1, xd2, xd3, xd4, xd5⟩ := XD.out
                  go_upto_region 16 with fail
                  refine wp_region_specs2 wp 9 (fun i => 87 + i) (fun i x wx => match i with | 0 => x = .agg #[.int .i64 t0, .bool t1, .int .i64 t2, .string t3, .slice t4 t4l t4c, .slice t5 t5l t5c] | 1 => x = .pointer (some ⟨w.heap.size + 1, 5, none⟩) | 2 => x = .slice (some ⟨bm, om, none⟩) m.length mc | 3 => x = .int .i64 j | 4 => x = .pointer (some ⟨bm, om + j * 7, none⟩) | 5 => x = .pointer (some ⟨bm, om + j * 7, none⟩) | 6 => x = .string m[j].1 | 7 => x = .agg #[.int .i64 d0, .bool d1, .int .i64 d2, .string d3, .slice d4 d4l d4c, .slice d5 d5l d5c] | 8 => ∃ ds : Array Value, x = .agg ds ∧ Lies wx (fun b => ((R1 b ∨ (R2 b ∧ b < w0.heap.size)) ∧ b < w1.heap.size) ∨ w.heap.size + 3 < b) (mk5 (putR m[j].1 m[j].2 o)) ds | _ => True) (fun _ wx => ∃ (t0 : Int) (t1 : Bool) (t2 : Int) (t3 : ByteArray) (t4 : Option Addr) (t4l t4c : Nat) (t5 : Option Addr) (t5l t5c : Nat), BoxA wx (w.heap.size + 1 + 1 + 1) (.int .i64 t0) (.bool t1) (.int .i64 t2) (.string t3) (.slice t4 t4l t4c) (.slice t5 t5l t5c) ∧ Hid (Lies wx (fun b => ((R1 b ∨ (R2 b ∧ b < w0.heap.size)) ∧ b < w1.heap.size) ∨ w.heap.size + 3 < b) (mk5 (putR m[j].1 m[j].2 o)) #[.int .i64 t0, .bool t1, .int .i64 t2, .string t3, .slice t4 t4l t4c, .slice t5 t5l t5c]) ∧ Hid (∀ k, wx.frozen? ⟨w.heap.size + 1 + 1 + 1, k, none⟩ = false) ∧ Hid (∀ b, b < v.heap.size → b ≠ w.heap.size + 3 → wx.heap[b]? = v.heap[b]?) ∧ v.heap.size ≤ wx.heap.size ∧ Hid (Below w.heap.size w wx)) (by kernel_rfl) (by kernel_rfl) ?s1 (Below.refl _ _) ?s2 ?s3 ?s4 ?s5
                  case s1 => intro i hi; exact Nat.lt_of_lt_of_le (show 87 + i < 97 by omega) (Nat.le_refl 97)
                  case s2 =>
                    intro i x w1 w2 hb hU
                    match i, hU with
                    | 8, ⟨ds, e, hl⟩ => exact ⟨ds, e, hl.later hb⟩
                    | 0, h | 1, h | 2, h | 3, h | 4, h | 5, h | 6, h | 7, h => exact h
                    | (n + 9), _ => trivial
                  case s3 =>
                    intro i o ac wb K' ho hi hA hB hdep hK
                    have sv3 : ac.tmps[3]?.getD undef = .pointer (some ⟨w.heap.size + 1, 0, none⟩) := hA.sl (t := 3) (by decide)
                    have sv5 : ac.tmps[5]?.getD undef = .pointer (some ⟨w.heap.size + 1 + 1 + 1, 0, none⟩) := hA.sl (t := 5) (by decide)
                    have sv9 : ac.tmps[9]?.getD undef = .int .i64 j := hA.sl (t := 9) (by decide)
                    have sv12 : ac.tmps[12]?.getD undef = .pointer (some ⟨wn.heap.size, 0, none⟩) := hA.sl (t := 12) (by decide)
                    obtain ⟨xm0, xm1, xm2, xm3, xm4, xm5⟩ := HBOX.out.later hB
                    have xb5 := cells_frame hB xb5
                    have p0 := cells_frame hB p0
                    have xd0 := cells_frame hB xd0
                    have xd1 := cells_frame hB xd1
                    have xd2 := cells_frame hB xd2
                    have xd3 := cells_frame hB xd3
                    have xd4 := cells_frame hB xd4
                    have xd5 := cells_frame hB xd5
                    rcases (by omega : i = 0 ∨ i = 1 ∨ i = 2 ∨ i = 3 ∨ i = 4 ∨ i = 5 ∨ i = 6 ∨ i = 7 ∨ i = 8) with rfl | rfl | rfl | rfl | rfl | rfl | rfl | rfl | rfl
                    · simp at ho
                      subst ho
                      clear hdep hA
                      go_simp
                      exact hK _ wb (Below.refl _ _) rfl
                    · simp at ho
                      subst ho
                      clear hdep hA
                      go_simp
                      exact hK _ wb (Below.refl _ _) rfl
                    · simp at ho
                      subst ho
                      have y1 : ac.tmps[88]?.getD undef = .pointer (some ⟨w.heap.size + 1, 5, none⟩) := hdep { on := 1, ground := .data } (by simp) rfl
                      clear hdep hA
                      go_simp
                      exact hK _ wb (Below.refl _ _) rfl
                    · simp at ho
                      subst ho
                      clear hdep hA
                      go_simp
                      exact hK _ wb (Below.refl _ _) rfl
                    · simp at ho
                      subst ho
                      have y2 : ac.tmps[89]?.getD undef = .slice (some ⟨bm, om, none⟩) m.length mc := hdep { on := 2, ground := .data } (by simp) rfl
                      have y3 : ac.tmps[90]?.getD undef = .int .i64 j := hdep { on := 3, ground := .data } (by simp) rfl
                      clear hdep hA
                      go_simp
                      exact hK _ wb (Below.refl _ _) rfl
                    · simp at ho
                      subst ho
                      have y4 : ac.tmps[91]?.getD undef = .pointer (some ⟨bm, om + j * 7, none⟩) := hdep { on := 4, ground := .data } (by simp) rfl
                      clear hdep hA
                      go_simp
                      exact hK _ wb (Below.refl _ _) rfl
                    · simp at ho
                      subst ho
                      have y5 : ac.tmps[92]?.getD undef = .pointer (some ⟨bm, om + j * 7, none⟩) := hdep { on := 5, ground := .data } (by simp) rfl
                      clear hdep hA
                      go_simp
                      exact hK _ wb (Below.refl _ _) rfl
                    · simp at ho
                      subst ho
                      clear hdep hA
                      go_simp
                      exact hK _ wb (Below.refl _ _) rfl
                    · simp at ho
                      subst ho
                      have y0 : ac.tmps[87]?.getD undef = .agg #[.int .i64 t0, .bool t1, .int .i64 t2, .string t3, .slice t4 t4l t4c, .slice t5 t5l t5c] := hdep { on := 0, ground := .data } (by simp) rfl
                      have y6 : ac.tmps[93]?.getD undef = .string m[j].1 := hdep { on := 6, ground := .data } (by simp) rfl
                      have y7 : ac.tmps[94]?.getD undef = .agg #[.int .i64 d0, .bool d1, .int .i64 d2, .string d3, .slice d4 d4l d4c, .slice d5 d5l d5c] := hdep { on := 7, ground := .data } (by simp) rfl
                      clear hdep hA
                      go_simp
                      refine (rPut_any HLI.out HX.out m[j].1 hko hol wb hB).mono ?_
                      rintro e w5 ⟨ds, rfl, hL, hb5⟩
                      have hL := hL
                      rw [HNW.out] at hL
                      have hbs := hB.size
                      refine hK _ w5 hb5 ⟨ds, rfl, hL.weaken fun b hb => ?_⟩
                      rcases hb with ⟨h | h, h2⟩ | h
                      · exact h
                      · exact h
                      · exact .inr (by omega)
                  case s4 =>
                    intro o ac wb K' ho hA hB hU hK
                    have sv3 : ac.tmps[3]?.getD undef = .pointer (some ⟨w.heap.size + 1, 0, none⟩) := hA.sl (t := 3) (by decide)
                    have sv5 : ac.tmps[5]?.getD undef = .pointer (some ⟨w.heap.size + 1 + 1 + 1, 0, none⟩) := hA.sl (t := 5) (by decide)
                    have sv9 : ac.tmps[9]?.getD undef = .int .i64 j := hA.sl (t := 9) (by decide)
                    have sv12 : ac.tmps[12]?.getD undef = .pointer (some ⟨wn.heap.size, 0, none⟩) := hA.sl (t := 12) (by decide)
                    obtain ⟨xm0, xm1, xm2, xm3, xm4, xm5⟩ := HBOX.out.later hB
                    have xb5 := cells_frame hB xb5
                    have p0 := cells_frame hB p0
                    have xd0 := cells_frame hB xd0
                    have xd1 := cells_frame hB xd1
                    have xd2 := cells_frame hB xd2
                    have xd3 := cells_frame hB xd3
                    have xd4 := cells_frame hB xd4
                    have xd5 := cells_frame hB xd5
                    simp at ho
                    subst ho
                    obtain ⟨ds, y8, hL⟩ := hU 8 (by omega)
                    obtain ⟨q0, q1, q2, q3, q4, q4l, q4c, q5, q5l, q5c, rfl⟩ := hL.six
                    have y8 : ac.tmps[95]?.getD undef = .agg #[.int .i64 q0, .bool q1, .int .i64 q2, .string q3, .slice q4 q4l q4c, .slice q5 q5l q5c] := y8
                    clear hU hA
                    have yf : ∀ k, wb.frozen? ⟨w.heap.size + 1 + 1 + 1, k, none⟩ = false := fun k => (hB.frozen (p := ⟨w.heap.size + 1 + 1 + 1, k, none⟩) hbl).trans (HFZ.out k)
                    have YF := Lib.hid yf
                    have ybx := HBOX.out.later hB
                    have HLQ := Lib.hid hL
                    clear xb5 p0 xd0 xd1 xd2 xd3 xd4 xd5 hL
                    go_simp
                    refine hK _ ⟨q0, q1, q2, q3, q4, q4l, q4c, q5, q5l, q5c, ybx.row _ _ _ _ _ _, (HLQ.out.bound.keepB (fun x hx hlt => setRow_heap _ [.int .i64 q0, .bool q1, .int .i64 q2, .string q3, .slice q4 q4l q4c, .slice q5 q5l q5c] _ _ _ (by
                        rcases hx.1 with h | h
                        · have := h.2; omega
                        · omega))).weaken (fun x hx => hx.1.1), (fun k => (setRow_frozen _ [.int .i64 q0, .bool q1, .int .i64 q2, .string q3, .slice q4 q4l q4c, .slice q5 q5l q5c] _ _ _).trans (YF.out k)), (fun b hb hn => (setRow_heap _ [.int .i64 q0, .bool q1, .int .i64 q2, .string q3, .slice q4 q4l q4c, .slice q5 q5l q5c] _ _ _ hn).trans ((hB.block b (by omega)).trans (KP.out b hb hn))), ?_, setRow_below _ (Nat.le_add_right w.heap.size 3) [.int .i64 q0, .bool q1, .int .i64 q2, .string q3, .slice q4 q4l q4c, .slice q5 q5l q5c] _ _ (bstep HBW.out hB HBW.out.size)⟩
                    have h1 := setRow_size (w.heap.size + 1 + 1 + 1) [.int .i64 q0, .bool q1, .int .i64 q2, .string q3, .slice q4 q4l q4c, .slice q5 q5l q5c] wb 0
                    have h2 := hB.size
                    exact Nat.le_trans (by omega : v.heap.size ≤ wb.heap.size) (Nat.le_of_eq h1.symm)
                  case s5 =>
                    intro ac wn hA hF
                    have hs : slots 9 (fun i => 87 + i) = [87, 88, 89, 90, 91, 92, 93, 94, 95] := by rfl
                    rw [hs] at hA
                    have hac := hA.act (fun t ht => by
                      have h8 : t = 87 ∨ t = 88 ∨ t = 89 ∨ t = 90 ∨ t = 91 ∨ t = 92 ∨ t = 93 ∨ t = 94 ∨ t = 95 := by simpa using ht
                      rcases h8 with rfl | rfl | rfl | rfl | rfl | rfl | rfl | rfl | rfl <;> exact Nat.lt_of_lt_of_le (by decide : _ < 97) (Nat.le_refl 97))
                    rw [List.foldl_cons, List.foldl_cons, List.foldl_cons, List.foldl_cons, List.foldl_cons, List.foldl_cons, List.foldl_cons, List.foldl_cons, List.foldl_cons, List.foldl_nil] at hac
                    generalize sl ac 87 = x87 at hac
                    generalize sl ac 88 = x88 at hac
                    generalize sl ac 89 = x89 at hac
                    generalize sl ac 90 = x90 at hac
                    generalize sl ac 91 = x91 at hac
                    generalize sl ac 92 = x92 at hac
                    generalize sl ac 93 = x93 at hac
                    generalize sl ac 94 = x94 at hac
                    generalize sl ac 95 = x95 at hac
                    clear hA hs
                    subst hac
                    simp only [Act.put, List.setIfInBounds_toArray, List.set_cons_succ, List.set_cons_zero]
                    obtain ⟨n0, n1, n2, n3, n4, n4l, n4c, n5, n5l, n5c, NB, NL, NF, NK, NS, NW⟩ := hF
                    have NB' := Lib.hid NB
                    clear NB HLI HFZ KP HBW HBOX xb5 p0 hbl hbl2 HX XD xd0 xd1 xd2 xd3 xd4 xd5 hsz
                    go_wp2_with fail
                    go_roundw
                    case rel => exact ⟨j + 1, _, n0, n1, n2, n3, n4, n4l, n4c, n5, n5l, n5c, by omega, by go_num, HRN, NB'.out, NL, NF, NK, NS, NW⟩
                    case measure => simp [intOf]; omega

              | some y =>
                have CT : Hid (∀ wb, Below wr.heap.size wr wb → Calls Try.prog 9 #[.agg #[.int .i64 5, .bool b1, .int .i64 n1, .string s1, .slice la1 l1.length lc1, .slice ma1 m1.length mc1], .string m[j].1] wb fun e w' => ∃ (f0 : Int) (f1 : Bool) (f2 : Int) (f3 : ByteArray) (f4 : Option Addr) (f4l f4c : Nat) (f5 : Option Addr) (f5l f5c : Nat), e = .returned (.tuple #[.agg #[.int .i64 f0, .bool f1, .int .i64 f2, .string f3, .slice f4 f4l f4c, .slice f5 f5l f5c], .bool true]) ∧ Lies w' (fun b => R1 b ∧ b < w1.heap.size) y #[.int .i64 f0, .bool f1, .int .i64 f2, .string f3, .slice f4 f4l f4c, .slice f5 f5l f5c] ∧ Below wb.heap.size wb w') := fun wb hb => by
                  have h := rGet_any HT.out m[j].1 wb (bstep hbr hb hbr.size)
                  rw [show findR m[j].1 (T.mk 5 b1 n1 s1 l1 m1).map = some y from hr] at h
                  refine h.mono ?_
                  rintro e w' ⟨ds, rfl, hL, hb2⟩
                  obtain ⟨f0, f1, f2, f3, f4, f4l, f4c, f5, f5l, f5c, rfl⟩ := hL.six
                  exact ⟨f0, f1, f2, f3, f4, f4l, f4c, f5, f5l, f5c, rfl, hL.weaken fun b hb => hb, hb2⟩
                go_upto_region 11 with fail
                refine wp_region_specsL wr 12 11 (fun i => match i with | 0 => 51 | 1 => 52 | 2 => 53 | 3 => 54 | 4 => 55 | 5 => 56 | 6 => 57 | 7 => 58 | 8 => 50 | 9 => 59 | 10 => 60 | 11 => 10 | 12 => 11 | _ => 0) (fun i => decide (i = 10)) (fun i x wx => match i with | 0 => x = .agg #[.int .i64 5, .bool b1, .int .i64 n1, .string s1, .slice la1 l1.length lc1, .slice ma1 m1.length mc1] | 1 => x = .pointer (some ⟨w.heap.size + 1, 5, none⟩) | 2 => x = .slice (some ⟨bm, om, none⟩) m.length mc | 3 => x = .int .i64 j | 4 => x = .pointer (some ⟨bm, om + j * 7, none⟩) | 5 => x = .pointer (some ⟨bm, om + j * 7, none⟩) | 6 => x = .string m[j].1 | 7 => ∃ (f0 : Int) (f1 : Bool) (f2 : Int) (f3 : ByteArray) (f4 : Option Addr) (f4l f4c : Nat) (f5 : Option Addr) (f5l f5c : Nat), x = .tuple #[.agg #[.int .i64 f0, .bool f1, .int .i64 f2, .string f3, .slice f4 f4l f4c, .slice f5 f5l f5c], .bool true]  ∧ Lies wx (fun b => R1 b ∧ b < w1.heap.size) y #[.int .i64 f0, .bool f1, .int .i64 f2, .string f3, .slice f4 f4l f4c, .slice f5 f5l f5c] | 8 => ∃ (f0 : Int) (f1 : Bool) (f2 : Int) (f3 : ByteArray) (f4 : Option Addr) (f4l f4c : Nat) (f5 : Option Addr) (f5l f5c : Nat), x = .tuple #[.agg #[.int .i64 f0, .bool f1, .int .i64 f2, .string f3, .slice f4 f4l f4c, .slice f5 f5l f5c], .bool true]  ∧ Lies wx (fun b => R1 b ∧ b < w1.heap.size) y #[.int .i64 f0, .bool f1, .int .i64 f2, .string f3, .slice f4 f4l f4c, .slice f5 f5l f5c] | 9 => ∃ (f0 : Int) (f1 : Bool) (f2 : Int) (f3 : ByteArray) (f4 : Option Addr) (f4l f4c : Nat) (f5 : Option Addr) (f5l f5c : Nat), x = .agg #[.int .i64 f0, .bool f1, .int .i64 f2, .string f3, .slice f4 f4l f4c, .slice f5 f5l f5c] ∧ Lies wx (fun b => R1 b ∧ b < w1.heap.size) y #[.int .i64 f0, .bool f1, .int .i64 f2, .string f3, .slice f4 f4l f4c, .slice f5 f5l f5c] | 10 => x = .bool true | 11 => ∃ g : Nat, x = .pointer (some ⟨g, 0, none⟩) ∧ ZB wx g ∧ wr.heap.size ≤ g | _ => True) (fun i x => match i with | 0 => x = .agg #[.int .i64 5, .bool b1, .int .i64 n1, .string s1, .slice la1 l1.length lc1, .slice ma1 m1.length mc1] | 1 => x = .pointer (some ⟨w.heap.size + 1, 5, none⟩) | 2 => x = .slice (some ⟨bm, om, none⟩) m.length mc | 3 => x = .int .i64 j | 4 => x = .pointer (some ⟨bm, om + j * 7, none⟩) | 5 => x = .pointer (some ⟨bm, om + j * 7, none⟩) | 6 => x = .string m[j].1 | 7 => ∃ (f0 : Int) (f1 : Bool) (f2 : Int) (f3 : ByteArray) (f4 : Option Addr) (f4l f4c : Nat) (f5 : Option Addr) (f5l f5c : Nat), x = .tuple #[.agg #[.int .i64 f0, .bool f1, .int .i64 f2, .string f3, .slice f4 f4l f4c, .slice f5 f5l f5c], .bool true]  | 8 => ∃ (f0 : Int) (f1 : Bool) (f2 : Int) (f3 : ByteArray) (f4 : Option Addr) (f4l f4c : Nat) (f5 : Option Addr) (f5l f5c : Nat), x = .tuple #[.agg #[.int .i64 f0, .bool f1, .int .i64 f2, .string f3, .slice f4 f4l f4c, .slice f5 f5l f5c], .bool true]  | 9 => ∃ (f0 : Int) (f1 : Bool) (f2 : Int) (f3 : ByteArray) (f4 : Option Addr) (f4l f4c : Nat) (f5 : Option Addr) (f5l f5c : Nat), x = .agg #[.int .i64 f0, .bool f1, .int .i64 f2, .string f3, .slice f4 f4l f4c, .slice f5 f5l f5c] | 10 => x = .bool true | 11 => ∃ g : Nat, x = .pointer (some ⟨g, 0, none⟩) ∧ wr.heap.size ≤ g | 12 => x = .bool true | _ => True) (fun x wx => ∃ (g : Nat) (f0 : Int) (f1 : Bool) (f2 : Int) (f3 : ByteArray) (f4 : Option Addr) (f4l f4c : Nat) (f5 : Option Addr) (f5l f5c : Nat), x = .pointer (some ⟨g, 0, none⟩) ∧ Hid (BoxA wx g (.int .i64 f0) (.bool f1) (.int .i64 f2) (.string f3) (.slice f4 f4l f4c) (.slice f5 f5l f5c)) ∧ Hid (Lies wx (fun b => R1 b ∧ b < w1.heap.size) y #[.int .i64 f0, .bool f1, .int .i64 f2, .string f3, .slice f4 f4l f4c, .slice f5 f5l f5c]) ∧ wr.heap.size ≤ g ∧ g < wx.heap.size ∧ Below wr.heap.size wr wx) (by kernel_rfl) (by kernel_rfl) ?s1 (by decide) (by decide) (Below.refl _ _) ?s2 ?s3 ?s4 ?s5 ?s6 ?s7 ?s8 ?s9
                case s1 => intro i hi; rcases (by omega : i = 0 ∨ i = 1 ∨ i = 2 ∨ i = 3 ∨ i = 4 ∨ i = 5 ∨ i = 6 ∨ i = 7 ∨ i = 8 ∨ i = 9 ∨ i = 10 ∨ i = 11 ∨ i = 12) with rfl | rfl | rfl | rfl | rfl | rfl | rfl | rfl | rfl | rfl | rfl | rfl | rfl <;> exact Nat.lt_of_lt_of_le (by decide : _ < 97) (Nat.le_refl 97)
                case s2 =>
                  intro i x w1 w2 hb hU
                  match i, hU with
                  | 7, ⟨f0, f1, f2, f3, f4, f4l, f4c, f5, f5l, f5c, e, hl⟩ => exact ⟨f0, f1, f2, f3, f4, f4l, f4c, f5, f5l, f5c, e, hl.later hb⟩
                  | 8, ⟨f0, f1, f2, f3, f4, f4l, f4c, f5, f5l, f5c, e, hl⟩ => exact ⟨f0, f1, f2, f3, f4, f4l, f4c, f5, f5l, f5c, e, hl.later hb⟩
                  | 9, ⟨f0, f1, f2, f3, f4, f4l, f4c, f5, f5l, f5c, e, hl⟩ => exact ⟨f0, f1, f2, f3, f4, f4l, f4c, f5, f5l, f5c, e, hl.later hb⟩
                  | 11, ⟨g, e, hz, hg⟩ => exact ⟨g, e, hz.later hb, hg⟩
                  | 0, h | 1, h | 2, h | 3, h | 4, h | 5, h | 6, h | 10, h => exact h
                  | (k + 12), _ => trivial
                case s3 =>
                  intro i x w1 hi hU
                  match i, hU with
                  | 7, ⟨f0, f1, f2, f3, f4, f4l, f4c, f5, f5l, f5c, e, hl⟩ => exact ⟨f0, f1, f2, f3, f4, f4l, f4c, f5, f5l, f5c, e⟩
                  | 8, ⟨f0, f1, f2, f3, f4, f4l, f4c, f5, f5l, f5c, e, hl⟩ => exact ⟨f0, f1, f2, f3, f4, f4l, f4c, f5, f5l, f5c, e⟩
                  | 9, ⟨f0, f1, f2, f3, f4, f4l, f4c, f5, f5l, f5c, e, hl⟩ => exact ⟨f0, f1, f2, f3, f4, f4l, f4c, f5, f5l, f5c, e⟩
                  | 11, ⟨g, e, hz, hg⟩ => exact ⟨g, e, hg⟩
                  | 0, h | 1, h | 2, h | 3, h | 4, h | 5, h | 6, h | 10, h => exact h
                  | (k + 12), _ => omega
                case s4 =>
                  intro i x w1 hi hL hU
                  obtain rfl : i = 10 := of_decide_eq_true hL
                  exact hU
                case s5 =>
                  intro i o ac wb K' ho hi hL hA hB hdep hK
                  have sv2 : ac.tmps[2]?.getD undef = .pointer (some ⟨w.heap.size, 0, none⟩) := hA.sl (t := 2) (by decide)
                  have sv3 : ac.tmps[3]?.getD undef = .pointer (some ⟨w.heap.size + 1, 0, none⟩) := hA.sl (t := 3) (by decide)
                  have sv9 : ac.tmps[9]?.getD undef = .int .i64 j := hA.sl (t := 9) (by decide)
                  have xa0 := cells_frame hB xa0
                  have xa1 := cells_frame hB xa1
                  have xa2 := cells_frame hB xa2
                  have xa3 := cells_frame hB xa3
                  have xa4 := cells_frame hB xa4
                  have xa5 := cells_frame hB xa5
                  have xb5 := cells_frame hB xb5
                  have p0 := cells_frame hB p0
                  have hL : i ≠ 10 := of_decide_eq_false hL
                  rcases (by omega : i = 0 ∨ i = 1 ∨ i = 2 ∨ i = 3 ∨ i = 4 ∨ i = 5 ∨ i = 6 ∨ i = 7 ∨ i = 8 ∨ i = 9 ∨ i = 11) with rfl | rfl | rfl | rfl | rfl | rfl | rfl | rfl | rfl | rfl | rfl
                  · simp at ho
                    subst ho
                    clear hdep hA
                    go_simp
                    exact hK _ wb (Below.refl _ _) rfl
                  · simp at ho
                    subst ho
                    clear hdep hA
                    go_simp
                    exact hK _ wb (Below.refl _ _) rfl
                  · simp at ho
                    subst ho
                    have z1 : ac.tmps[52]?.getD undef = .pointer (some ⟨w.heap.size + 1, 5, none⟩) := hdep { on := 1, ground := .data } (by simp) rfl
                    clear hdep hA
                    go_simp
                    exact hK _ wb (Below.refl _ _) rfl
                  · simp at ho
                    subst ho
                    clear hdep hA
                    go_simp
                    exact hK _ wb (Below.refl _ _) rfl
                  · simp at ho
                    subst ho
                    have z2 : ac.tmps[53]?.getD undef = .slice (some ⟨bm, om, none⟩) m.length mc := hdep { on := 2, ground := .data } (by simp) rfl
                    have z3 : ac.tmps[54]?.getD undef = .int .i64 j := hdep { on := 3, ground := .data } (by simp) rfl
                    clear hdep hA
                    go_simp
                    exact hK _ wb (Below.refl _ _) rfl
                  · simp at ho
                    subst ho
                    have z4 : ac.tmps[55]?.getD undef = .pointer (some ⟨bm, om + j * 7, none⟩) := hdep { on := 4, ground := .data } (by simp) rfl
                    clear hdep hA
                    go_simp
                    exact hK _ wb (Below.refl _ _) rfl
                  · simp at ho
                    subst ho
                    have z5 : ac.tmps[56]?.getD undef = .pointer (some ⟨bm, om + j * 7, none⟩) := hdep { on := 5, ground := .data } (by simp) rfl
                    clear hdep hA
                    go_simp
                    exact hK _ wb (Below.refl _ _) rfl
                  · simp at ho
                    subst ho
                    have z0 : ac.tmps[51]?.getD undef = .agg #[.int .i64 5, .bool b1, .int .i64 n1, .string s1, .slice la1 l1.length lc1, .slice ma1 m1.length mc1] := hdep { on := 0, ground := .data } (by simp) rfl
                    have z6 : ac.tmps[57]?.getD undef = .string m[j].1 := hdep { on := 6, ground := .data } (by simp) rfl
                    clear hdep hA
                    go_simp
                    refine (CT.out wb hB).mono ?_
                    rintro e w5 ⟨f0, f1, f2, f3, f4, f4l, f4c, f5, f5l, f5c, rfl, hl, hb5⟩
                    exact hK _ w5 hb5 ⟨f0, f1, f2, f3, f4, f4l, f4c, f5, f5l, f5c, rfl, hl⟩
                  · simp at ho
                    subst ho
                    obtain ⟨f0, f1, f2, f3, f4, f4l, f4c, f5, f5l, f5c, z7, hl⟩ := hdep { on := 7, ground := .data } (by simp) rfl
                    have z7 : ac.tmps[58]?.getD undef = .tuple #[.agg #[.int .i64 f0, .bool f1, .int .i64 f2, .string f3, .slice f4 f4l f4c, .slice f5 f5l f5c], .bool true] := z7
                    clear hdep hA
                    go_simp
                    exact hK _ wb (Below.refl _ _) ⟨f0, f1, f2, f3, f4, f4l, f4c, f5, f5l, f5c, rfl, hl⟩
                  · simp at ho
                    subst ho
                    obtain ⟨f0, f1, f2, f3, f4, f4l, f4c, f5, f5l, f5c, z7, hl⟩ := hdep { on := 8, ground := .data } (by simp) rfl
                    have z7 : ac.tmps[50]?.getD undef = .tuple #[.agg #[.int .i64 f0, .bool f1, .int .i64 f2, .string f3, .slice f4 f4l f4c, .slice f5 f5l f5c], .bool true] := z7
                    clear hdep hA
                    go_simp
                    exact hK _ wb (Below.refl _ _) ⟨f0, f1, f2, f3, f4, f4l, f4c, f5, f5l, f5c, rfl, hl⟩
                  · simp at ho
                    subst ho
                    clear hdep hA
                    go_simp
                    exact hK _ _ ((Below.refl _ _).alloc (Nat.le_refl _) _) ⟨wb.heap.size, rfl, ZB.new wb, hB.size⟩
                case s6 =>
                  intro i o ac wb K' ho hi hL hA hdep hK
                  obtain rfl : i = 10 := of_decide_eq_true hL
                  simp at ho
                  subst ho
                  obtain ⟨f0, f1, f2, f3, f4, f4l, f4c, f5, f5l, f5c, z8⟩ := hdep { on := 8, ground := .data } (by simp) rfl
                  have z8 : ac.tmps[50]?.getD undef = .tuple #[.agg #[.int .i64 f0, .bool f1, .int .i64 f2, .string f3, .slice f4 f4l f4c, .slice f5 f5l f5c], .bool true] := z8
                  clear hdep hA
                  go_simp
                  exact hK _ rfl
                case s7 =>
                  intro o ac wb K' ho hA hB hU hK
                  simp at ho
                  subst ho
                  obtain ⟨f0, f1, f2, f3, f4, f4l, f4c, f5, f5l, f5c, z9, hl⟩ := hU 9 (by omega) (by decide)
                  obtain ⟨g, z11, hzb, hg⟩ := hU 11 (by omega) (by decide)
                  have z9 : ac.tmps[59]?.getD undef = .agg #[.int .i64 f0, .bool f1, .int .i64 f2, .string f3, .slice f4 f4l f4c, .slice f5 f5l f5c] := z9
                  have z11' : ac.tmps[10]?.getD undef = .pointer (some ⟨g, 0, none⟩) := z11
                  have zc : ∀ j, wb.cell? ⟨g, j, none⟩ = (#[.int .i64 0, .bool false, .int .i64 0, .string ⟨#[]⟩, .slice none 0 0, .slice none 0 0] : Array Value)[j]? := hzb.cell
                  have zf := hzb.frozen
                  have hbx := hzb.box.row (.int .i64 f0) (.bool f1) (.int .i64 f2) (.string f3) (.slice f4 f4l f4c) (.slice f5 f5l f5c)
                  have hlt := hzb.lt
                  have hlz := Lib.hid hl
                  clear hU hA hl
                  go_simp
                  exact hK _ ⟨g, f0, f1, f2, f3, f4, f4l, f4c, f5, f5l, f5c, z11, hbx, (hlz.out.keepB (fun x hx _ => setRow_heap g [.int .i64 f0, .bool f1, .int .i64 f2, .string f3, .slice f4 f4l f4c, .slice f5 f5l f5c] wb 0 x (by have := hx.2; omega))).weaken (fun x hx => hx.1), hg, by show _ < (setRow wb g 0 [.int .i64 f0, .bool f1, .int .i64 f2, .string f3, .slice f4 f4l f4c, .slice f5 f5l f5c]).heap.size; rw [setRow_size]; exact hlt, setRow_below g hg [.int .i64 f0, .bool f1, .int .i64 f2, .string f3, .slice f4 f4l f4c, .slice f5 f5l f5c] wb 0 hB⟩
                case s8 =>
                  intro o ac wb K' ho hA hVV hK
                  simp at ho
                  subst ho
                  have z10 : ac.tmps[60]?.getD undef = .bool true := hVV 10 (by omega)
                  clear hVV hA
                  go_simp
                  exact hK _ rfl
                case s9 =>
                  intro ac wn hA hVV hF
                  obtain ⟨g, f0, f1, f2, f3, f4, f4l, f4c, f5, f5l, f5c, z11, XF, HF, hg, hgl, hbn⟩ := hF
                  have z12 := hVV 12 (by omega)
                  have hs : slots 13 (fun i => match i with | 0 => 51 | 1 => 52 | 2 => 53 | 3 => 54 | 4 => 55 | 5 => 56 | 6 => 57 | 7 => 58 | 8 => 50 | 9 => 59 | 10 => 60 | 11 => 10 | 12 => 11 | _ => 0) = [51, 52, 53, 54, 55, 56, 57, 58, 50, 59, 60, 10, 11] := by rfl
                  rw [hs] at hA
                  have hac := hA.act (fun t ht => by
                    have h8 : t = 51 ∨ t = 52 ∨ t = 53 ∨ t = 54 ∨ t = 55 ∨ t = 56 ∨ t = 57 ∨ t = 58 ∨ t = 50 ∨ t = 59 ∨ t = 60 ∨ t = 10 ∨ t = 11 := by simpa using ht
                    rcases h8 with rfl | rfl | rfl | rfl | rfl | rfl | rfl | rfl | rfl | rfl | rfl | rfl | rfl <;> exact Nat.lt_of_lt_of_le (by decide : _ < 97) (Nat.le_refl 97))
                  rw [List.foldl_cons, List.foldl_cons, List.foldl_cons, List.foldl_cons, List.foldl_cons, List.foldl_cons, List.foldl_cons, List.foldl_cons, List.foldl_cons, List.foldl_cons, List.foldl_cons, List.foldl_cons, List.foldl_cons, List.foldl_nil] at hac
                  have z11 : sl ac 10 = .pointer (some ⟨g, 0, none⟩) := z11
                  have z12 : sl ac 11 = .bool true := z12
                  rw [z11, z12] at hac
                  generalize sl ac 51 = x51 at hac
                  generalize sl ac 52 = x52 at hac
                  generalize sl ac 53 = x53 at hac
                  generalize sl ac 54 = x54 at hac
                  generalize sl ac 55 = x55 at hac
                  generalize sl ac 56 = x56 at hac
                  generalize sl ac 57 = x57 at hac
                  generalize sl ac 58 = x58 at hac
                  generalize sl ac 50 = x50 at hac
                  generalize sl ac 59 = x59 at hac
                  generalize sl ac 60 = x60 at hac
                  clear hA hs hVV z11 z12
                  subst hac
                  simp only [Act.put, List.setIfInBounds_toArray, List.set_cons_succ, List.set_cons_zero]
                  clear CT
                  have p0 := cells_frame hbn p0
                  have p1 := cells_frame hbn p1
                  have p2 := cells_frame hbn p2
                  have p3 := cells_frame hbn p3
                  have p4 := cells_frame hbn p4
                  have p5 := cells_frame hbn p5
                  have p6 := cells_frame hbn p6
                  have xb5 := cells_frame hbn xb5
                  have bD := bstep hbn ((Below.refl wn.heap.size wn).alloc (Nat.le_refl _) (.cells #[.int .i64 d0, .bool d1, .int .i64 d2, .string d3, .slice d4 d4l d4c, .slice d5 d5l d5c] 25)) hbn.size
                  clear xa0 xa1 xa2 xa3 xa4 xa5 xb0 xb1 xb2 xb3 xb4
                  have ky : y.kind = f0 := lies_kind HF.out
                  have bW := (Below.refl wn.heap.size wn).alloc (Nat.le_refl _) (.cells #[.int .i64 d0, .bool d1, .int .i64 d2, .string d3, .slice d4 d4l d4c, .slice d5 d5l d5c] 25)
                  obtain ⟨xf0, xf1, xf2, xf3, xf4, xf5⟩ := XF.out.later bW
                  have HF1 := Lib.hid (HF.out.later bW)
                  have HD1 := Lib.hid (HLD.out.later bD)
                  have XD1 : Hid (BoxA (wn.alloc (.cells #[.int .i64 d0, .bool d1, .int .i64 d2, .string d3, .slice d4 d4l d4c, .slice d5 d5l d5c] 25)) wn.heap.size (.int .i64 d0) (.bool d1) (.int .i64 d2) (.string d3) (.slice d4 d4l d4c) (.slice d5 d5l d5c)) := BoxA.new wn (.int .i64 d0) (.bool d1) (.int .i64 d2) (.string d3) (.slice d4 d4l d4c) (.slice d5 d5l d5c) 25
                  have XF1 := Lib.hid (XF.out.later bW)
                  have sW : wn.heap.size < (wn.alloc (.cells #[.int .i64 d0, .bool d1, .int .i64 d2, .string d3, .slice d4 d4l d4c, .slice d5 d5l d5c] 25)).heap.size := by simp
                  have ZF1 : Hid (∀ k, (wn.alloc (.cells #[.int .i64 d0, .bool d1, .int .i64 d2, .string d3, .slice d4 d4l d4c, .slice d5 d5l d5c] 25)).frozen? ⟨wn.heap.size, k, none⟩ = false) := fun k => World.frozen?_alloc_new _ _ _ _
                  have BD := Lib.hid bD
                  clear bD bW XF HF
                  go_wp2_with fail
                  refine (rSame_any HF1.out HD1.out _ (Below.refl _ _)).mono ?_
                  rintro e w6 ⟨rfl, hb6⟩
                  have b6 := bstep BD.out hb6 BD.out.size
                  obtain ⟨xf0, xf1, xf2, xf3, xf4, xf5⟩ := XF1.out.later hb6
                  obtain ⟨xd0, xd1, xd2, xd3, xd4, xd5⟩ := XD1.out.later hb6
                  have XF6 := Lib.hid (XF1.out.later hb6)
                  have XD6 := Lib.hid (XD1.out.later hb6)
                  have HF6 := Lib.hid (HF1.out.later hb6)
                  have HD6 := Lib.hid (HD1.out.later hb6)
                  have ZF6 : Hid (∀ k, w6.frozen? ⟨wn.heap.size, k, none⟩ = false) := fun k => (hb6.frozen (p := ⟨wn.heap.size, k, none⟩) sW).trans (ZF1.out k)
                  have s6 : wn.heap.size < w6.heap.size := Nat.lt_of_lt_of_le sW hb6.size
                  have B6 := Lib.hid b6
                  have GW := Lib.hid (hbn.size)
                  clear xf1 xf2 xf3 xf4 xf5 xd1 xd2 xd3 xd4 xd5 XF1 XD1 HF1 HD1 sW BD hb6 b6 hbn hg hgl p0 p1 p2 p3 p4 p5 p6
                  have xb5 := cells_frame B6.out XB5.out
                  have p0 := cells_frame B6.out P0.out
                  cases hsm : T.same y m[j].2 with
                  | true =>
                    have HRN := Lib.hid (HRD.out.skip HAM.out.2 hjl ((HDA.out j hjl).2 (by rw [hr, T.same_true hsm])))
                    clear hr hsm
                    have b3 := B6.out
                    have HBOX1 : Hid (BoxA w6 (w.heap.size + 1 + 1 + 1) (.int .i64 t0) (.bool t1) (.int .i64 t2) (.string t3) (.slice t4 t4l t4c) (.slice t5 t5l t5c)) := Lib.hid (HBOX.out.later b3)
                    have HLI1 := Lib.hid (HLI.out.later b3)
                    have HFZ1 : Hid (∀ k, w6.frozen? ⟨w.heap.size + 1 + 1 + 1, k, none⟩ = false) := fun k => (b3.frozen (p := ⟨w.heap.size + 1 + 1 + 1, k, none⟩) hbl).trans (HFZ.out k)
                    have KP1 : Hid (∀ b, b < v.heap.size → b ≠ w.heap.size + 3 → w6.heap[b]? = v.heap[b]?) := fun b' hb' hn => (b3.block b' (by omega)).trans (KP.out b' hb' hn)
                    have SZ1 : v.heap.size ≤ w6.heap.size := Nat.le_trans hsz b3.size
                    have HBW1 : Hid (Below w.heap.size w w6) := bstep HBW.out b3 HBW.out.size
                    have hbl1 : w.heap.size + 1 + 1 + 1 < w6.heap.size := Nat.lt_of_lt_of_le hbl b3.size
                    have xb51 : w6.cell? ⟨w.heap.size + 1, 5, none⟩ = some (.slice (some ⟨bm, om, none⟩) m.length mc) := cells_frame b3 XB5.out
                    have p01 : w6.cell? ⟨bm, om + j * 7, none⟩ = some (.string m[j].1) := cells_frame b3 P0.out

                    clear HBOX HLI HFZ KP HBW xf0 xd0 XF6 XD6 HF6 HD6 xb5 p0 b3 hbr
                    go_wp2_with fail
                    go_roundw
                    case rel => exact ⟨j + 1, o, t0, t1, t2, t3, t4, t4l, t4c, t5, t5l, t5c, by omega, by go_num, HRN, HBOX1.out, HLI1, HFZ1, KP1, SZ1, HBW1⟩
                    case measure => simp [intOf]; omega
                  | false =>
                    have hnn : diffAt (findR m[j].1 m1) (some m[j].2) ≠ none := fun e => T.same_false hsm (by have := (HDA.out j hjl).1 e; rw [hr] at this; injection this)
                    clear hsm
                    by_cases h5 : f0 = 5 ∧ d0 = 5
                    · obtain ⟨h5a, h5b⟩ := h5
                      have hnd : diffAt (findR m[j].1 m1) (some m[j].2) = some (T.diff y m[j].2) := by
                        rw [hr] at hnn ⊢
                        exact diffAt_maps ⟨ky.trans h5a, kj.trans h5b⟩ hnn
                      have HRN := Lib.hid (HRD.out.put HAM.out.2 hjl hnd)
                      have HNW : Hid (mk5 (rputG m[j].1 (T.diff y m[j].2) false (mk5 o).map) = mk5 (putR m[j].1 (T.diff y m[j].2) o)) := by
                        show _ = _
                        rw [show (mk5 o).map = o from rfl, rputG_put _ _ HRD.out.asc]

                      have hsy := (HSUB.out m[j].1 y hr).2 (ky.trans h5a)
                      have hzy := (HSUB.out m[j].1 y hr).1
                      have hsx := HSUC.out j hjl (kj.trans h5b)
                      have hzx := hmz.out j hjl
                      have g5 : (f0 == 5) = true := by simp [h5a]
                      have g6 : (d0 == 5) = true := by simp [h5b]
                      have H0 := Lib.hid (bstep hb0 B6.out hb0.size)
                      obtain ⟨xf0, xf1, xf2, xf3, xf4, xf5⟩ := XF6.out
                      obtain ⟨xd0, xd1, xd2, xd3, xd4, xd5⟩ := XD6.out
                      clear hr hnd hnn ky kj h5a h5b
                      go_wp2_with fail
                      refine (IHJ.out w6 _ y _ H0.out HF6.out w6 (Below.refl _ _) hsy hsx hzy hzx).mono ?_
                      rintro e w7 ⟨es, rfl, hL7, hb7⟩
                      obtain ⟨k0, k1, k2, k3, k4, k4l, k4c, k5, k5l, k5c, rfl⟩ := hL7.six
                      have HL7 := Lib.hid hL7
                      have XD7 := Lib.hid (XD6.out.later hb7)
                      obtain ⟨xd0, xd1, xd2, xd3, xd4, xd5⟩ := XD7.out
                      have b7 := bstep B6.out hb7 B6.out.size
                      have zf := b7
                      have XFZ : ∀ k, w7.frozen? ⟨wn.heap.size, k, none⟩ = false := fun k => ((hb7.frozen (p := ⟨wn.heap.size, k, none⟩) s6).trans (ZF6.out k))
                      have S67 := hb7.size
                      clear hL7 hb7 zf
                      go_upto_region 16 with fail
                      rw [show ((((((w7.setCell ⟨wn.heap.size, 0, none⟩ (.int .i64 k0)).setCell ⟨wn.heap.size, 1, none⟩ (.bool k1)).setCell ⟨wn.heap.size, 2, none⟩ (.int .i64 k2)).setCell ⟨wn.heap.size, 3, none⟩ (.string k3)).setCell ⟨wn.heap.size, 4, none⟩ (.slice k4 k4l k4c)).setCell ⟨wn.heap.size, 5, none⟩ (.slice k5 k5l k5c)) = setRow w7 wn.heap.size 0 [.int .i64 k0, .bool k1, .int .i64 k2, .string k3, .slice k4 k4l k4c, .slice k5 k5l k5c] from rfl]
                      have gw := GW.out
                      have b3 := setRow_below wn.heap.size GW.out [.int .i64 k0, .bool k1, .int .i64 k2, .string k3, .slice k4 k4l k4c, .slice k5 k5l k5c] w7 0 b7
                      have XD : Hid (BoxA (setRow w7 wn.heap.size 0 [.int .i64 k0, .bool k1, .int .i64 k2, .string k3, .slice k4 k4l k4c, .slice k5 k5l k5c]) wn.heap.size (.int .i64 k0) (.bool k1) (.int .i64 k2) (.string k3) (.slice k4 k4l k4c) (.slice k5 k5l k5c)) := XD7.out.row (.int .i64 k0) (.bool k1) (.int .i64 k2) (.string k3) (.slice k4 k4l k4c) (.slice k5 k5l k5c)
                      have HX : Hid (Lies (setRow w7 wn.heap.size 0 [.int .i64 k0, .bool k1, .int .i64 k2, .string k3, .slice k4 k4l k4c, .slice k5 k5l k5c]) (fun b => ((R1 b ∨ (R2 b ∧ b < w0.heap.size)) ∧ b < w1.heap.size) ∨ w.heap.size + 3 < b) (T.diff y m[j].2) #[.int .i64 k0, .bool k1, .int .i64 k2, .string k3, .slice k4 k4l k4c, .slice k5 k5l k5c]) := (HL7.out.bound.keepB (fun x hx hlt => setRow_heap wn.heap.size [.int .i64 k0, .bool k1, .int .i64 k2, .string k3, .slice k4 k4l k4c, .slice k5 k5l k5c] w7 0 x (by
                        rcases hx.1 with h | h
                        · rcases h.1 with h | h
                          · have := h.2; omega
                          · have := h.2; omega
                        · omega))).weaken fun b hb => by
                        rcases hb.1.1 with h | h
                        · rcases h.1 with h | h
                          · exact .inl ⟨.inl h.1, h.2⟩
                          · exact .inl ⟨.inr h, by have := h.2; omega⟩
                        · exact .inr (by omega)
                      have HBOX1 : Hid (BoxA (setRow w7 wn.heap.size 0 [.int .i64 k0, .bool k1, .int .i64 k2, .string k3, .slice k4 k4l k4c, .slice k5 k5l k5c]) (w.heap.size + 1 + 1 + 1) (.int .i64 t0) (.bool t1) (.int .i64 t2) (.string t3) (.slice t4 t4l t4c) (.slice t5 t5l t5c)) := Lib.hid (HBOX.out.later b3)
                      have HLI1 := Lib.hid (HLI.out.later b3)
                      have HFZ1 : Hid (∀ k, (setRow w7 wn.heap.size 0 [.int .i64 k0, .bool k1, .int .i64 k2, .string k3, .slice k4 k4l k4c, .slice k5 k5l k5c]).frozen? ⟨w.heap.size + 1 + 1 + 1, k, none⟩ = false) := fun k => (b3.frozen (p := ⟨w.heap.size + 1 + 1 + 1, k, none⟩) hbl).trans (HFZ.out k)
                      have KP1 : Hid (∀ b, b < v.heap.size → b ≠ w.heap.size + 3 → (setRow w7 wn.heap.size 0 [.int .i64 k0, .bool k1, .int .i64 k2, .string k3, .slice k4 k4l k4c, .slice k5 k5l k5c]).heap[b]? = v.heap[b]?) := fun b' hb' hn => (b3.block b' (by omega)).trans (KP.out b' hb' hn)
                      have SZ1 : v.heap.size ≤ (setRow w7 wn.heap.size 0 [.int .i64 k0, .bool k1, .int .i64 k2, .string k3, .slice k4 k4l k4c, .slice k5 k5l k5c]).heap.size := Nat.le_trans hsz b3.size
                      have HBW1 : Hid (Below w.heap.size w (setRow w7 wn.heap.size 0 [.int .i64 k0, .bool k1, .int .i64 k2, .string k3, .slice k4 k4l k4c, .slice k5 k5l k5c])) := bstep HBW.out b3 HBW.out.size
                      have hbl1 : w.heap.size + 1 + 1 + 1 < (setRow w7 wn.heap.size 0 [.int .i64 k0, .bool k1, .int .i64 k2, .string k3, .slice k4 k4l k4c, .slice k5 k5l k5c]).heap.size := Nat.lt_of_lt_of_le hbl b3.size
                      have xb51 : (setRow w7 wn.heap.size 0 [.int .i64 k0, .bool k1, .int .i64 k2, .string k3, .slice k4 k4l k4c, .slice k5 k5l k5c]).cell? ⟨w.heap.size + 1, 5, none⟩ = some (.slice (some ⟨bm, om, none⟩) m.length mc) := cells_frame b3 XB5.out
                      have p01 : (setRow w7 wn.heap.size 0 [.int .i64 k0, .bool k1, .int .i64 k2, .string k3, .slice k4 k4l k4c, .slice k5 k5l k5c]).cell? ⟨bm, om + j * 7, none⟩ = some (.string m[j].1) := cells_frame b3 P0.out
                      clear b3 b7 gw XD7 HL7 XFZ xd0 xd1 xd2 xd3 xd4 xd5 xf0 xf1 xf2 xf3 xf4 xf5 XF6 XD6 HF6 HD6 S67 xb5 p0 H0
                      clear HBOX HLI HFZ KP HBW hbl hbl2 hsz hbr
                      generalize (setRow w7 wn.heap.size 0 [.int .i64 k0, .bool k1, .int .i64 k2, .string k3, .slice k4 k4l k4c, .slice k5 k5l k5c]) = wp at *
                      have HBOX := HBOX1
                      have HLI := HLI1
                      have HFZ := HFZ1
                      have KP := KP1
                      have HBW := HBW1
                      have hbl := hbl1
                      have hsz := SZ1
                      have hbl2 : w.heap.size + 3 < wp.heap.size := hbl1
                      have xb5 := xb51
                      have p0 := p01
                      clear HBOX1 HLI1 HFZ1 KP1 HBW1 hbl1 SZ1 xb51 p01
                      obtain ⟨xd0, xd1, xd2, xd3, xd4, xd5⟩ := XD.out
                      go_upto_region 16 with fail
                      refine wp_region_specs2 wp 9 (fun i => 87 + i) (fun i x wx => match i with | 0 => x = .agg #[.int .i64 t0, .bool t1, .int .i64 t2, .string t3, .slice t4 t4l t4c, .slice t5 t5l t5c] | 1 => x = .pointer (some ⟨w.heap.size + 1, 5, none⟩) | 2 => x = .slice (some ⟨bm, om, none⟩) m.length mc | 3 => x = .int .i64 j | 4 => x = .pointer (some ⟨bm, om + j * 7, none⟩) | 5 => x = .pointer (some ⟨bm, om + j * 7, none⟩) | 6 => x = .string m[j].1 | 7 => x = .agg #[.int .i64 k0, .bool k1, .int .i64 k2, .string k3, .slice k4 k4l k4c, .slice k5 k5l k5c] | 8 => ∃ ds : Array Value, x = .agg ds ∧ Lies wx (fun b => ((R1 b ∨ (R2 b ∧ b < w0.heap.size)) ∧ b < w1.heap.size) ∨ w.heap.size + 3 < b) (mk5 (putR m[j].1 (T.diff y m[j].2) o)) ds | _ => True) (fun _ wx => ∃ (t0 : Int) (t1 : Bool) (t2 : Int) (t3 : ByteArray) (t4 : Option Addr) (t4l t4c : Nat) (t5 : Option Addr) (t5l t5c : Nat), BoxA wx (w.heap.size + 1 + 1 + 1) (.int .i64 t0) (.bool t1) (.int .i64 t2) (.string t3) (.slice t4 t4l t4c) (.slice t5 t5l t5c) ∧ Hid (Lies wx (fun b => ((R1 b ∨ (R2 b ∧ b < w0.heap.size)) ∧ b < w1.heap.size) ∨ w.heap.size + 3 < b) (mk5 (putR m[j].1 (T.diff y m[j].2) o)) #[.int .i64 t0, .bool t1, .int .i64 t2, .string t3, .slice t4 t4l t4c, .slice t5 t5l t5c]) ∧ Hid (∀ k, wx.frozen? ⟨w.heap.size + 1 + 1 + 1, k, none⟩ = false) ∧ Hid (∀ b, b < v.heap.size → b ≠ w.heap.size + 3 → wx.heap[b]? = v.heap[b]?) ∧ v.heap.size ≤ wx.heap.size ∧ Hid (Below w.heap.size w wx)) (by kernel_rfl) (by kernel_rfl) ?s1 (Below.refl _ _) ?s2 ?s3 ?s4 ?s5
                      case s1 => intro i hi; exact Nat.lt_of_lt_of_le (show 87 + i < 97 by omega) (Nat.le_refl 97)
                      case s2 =>
                        intro i x w1 w2 hb hU
                        match i, hU with
                        | 8, ⟨ds, e, hl⟩ => exact ⟨ds, e, hl.later hb⟩
                        | 0, h | 1, h | 2, h | 3, h | 4, h | 5, h | 6, h | 7, h => exact h
                        | (n + 9), _ => trivial
                      case s3 =>
                        intro i o ac wb K' ho hi hA hB hdep hK
                        have sv3 : ac.tmps[3]?.getD undef = .pointer (some ⟨w.heap.size + 1, 0, none⟩) := hA.sl (t := 3) (by decide)
                        have sv5 : ac.tmps[5]?.getD undef = .pointer (some ⟨w.heap.size + 1 + 1 + 1, 0, none⟩) := hA.sl (t := 5) (by decide)
                        have sv9 : ac.tmps[9]?.getD undef = .int .i64 j := hA.sl (t := 9) (by decide)
                        have sv12 : ac.tmps[12]?.getD undef = .pointer (some ⟨wn.heap.size, 0, none⟩) := hA.sl (t := 12) (by decide)
                        obtain ⟨xm0, xm1, xm2, xm3, xm4, xm5⟩ := HBOX.out.later hB
                        have xb5 := cells_frame hB xb5
                        have p0 := cells_frame hB p0
                        have xd0 := cells_frame hB xd0
                        have xd1 := cells_frame hB xd1
                        have xd2 := cells_frame hB xd2
                        have xd3 := cells_frame hB xd3
                        have xd4 := cells_frame hB xd4
                        have xd5 := cells_frame hB xd5
                        rcases (by omega : i = 0 ∨ i = 1 ∨ i = 2 ∨ i = 3 ∨ i = 4 ∨ i = 5 ∨ i = 6 ∨ i = 7 ∨ i = 8) with rfl | rfl | rfl | rfl | rfl | rfl | rfl | rfl | rfl
                        · simp at ho
                          subst ho
                          clear hdep hA
                          go_simp
                          exact hK _ wb (Below.refl _ _) rfl
                        · simp at ho
                          subst ho
                          clear hdep hA
                          go_simp
                          exact hK _ wb (Below.refl _ _) rfl
                        · simp at ho
                          subst ho
                          have y1 : ac.tmps[88]?.getD undef = .pointer (some ⟨w.heap.size + 1, 5, none⟩) := hdep { on := 1, ground := .data } (by simp) rfl
                          clear hdep hA
                          go_simp
                          exact hK _ wb (Below.refl _ _) rfl
                        · simp at ho
                          subst ho
                          clear hdep hA
                          go_simp
                          exact hK _ wb (Below.refl _ _) rfl
                        · simp at ho
                          subst ho
                          have y2 : ac.tmps[89]?.getD undef = .slice (some ⟨bm, om, none⟩) m.length mc := hdep { on := 2, ground := .data } (by simp) rfl
                          have y3 : ac.tmps[90]?.getD undef = .int .i64 j := hdep { on := 3, ground := .data } (by simp) rfl
                          clear hdep hA
                          go_simp
                          exact hK _ wb (Below.refl _ _) rfl
                        · simp at ho
                          subst ho
                          have y4 : ac.tmps[91]?.getD undef = .pointer (some ⟨bm, om + j * 7, none⟩) := hdep { on := 4, ground := .data } (by simp) rfl
                          clear hdep hA
                          go_simp
                          exact hK _ wb (Below.refl _ _) rfl
                        · simp at ho
                          subst ho
                          have y5 : ac.tmps[92]?.getD undef = .pointer (some ⟨bm, om + j * 7, none⟩) := hdep { on := 5, ground := .data } (by simp) rfl
                          clear hdep hA
                          go_simp
                          exact hK _ wb (Below.refl _ _) rfl
                        · simp at ho
                          subst ho
                          clear hdep hA
                          go_simp
                          exact hK _ wb (Below.refl _ _) rfl
                        · simp at ho
                          subst ho
                          have y0 : ac.tmps[87]?.getD undef = .agg #[.int .i64 t0, .bool t1, .int .i64 t2, .string t3, .slice t4 t4l t4c, .slice t5 t5l t5c] := hdep { on := 0, ground := .data } (by simp) rfl
                          have y6 : ac.tmps[93]?.getD undef = .string m[j].1 := hdep { on := 6, ground := .data } (by simp) rfl
                          have y7 : ac.tmps[94]?.getD undef = .agg #[.int .i64 k0, .bool k1, .int .i64 k2, .string k3, .slice k4 k4l k4c, .slice k5 k5l k5c] := hdep { on := 7, ground := .data } (by simp) rfl
                          clear hdep hA
                          go_simp
                          refine (rPut_any HLI.out HX.out m[j].1 hko hol wb hB).mono ?_
                          rintro e w5 ⟨ds, rfl, hL, hb5⟩
                          have hL := hL
                          rw [HNW.out] at hL
                          have hbs := hB.size
                          refine hK _ w5 hb5 ⟨ds, rfl, hL.weaken fun b hb => ?_⟩
                          rcases hb with ⟨h | h, h2⟩ | h
                          · exact h
                          · exact h
                          · exact .inr (by omega)
                      case s4 =>
                        intro o ac wb K' ho hA hB hU hK
                        have sv3 : ac.tmps[3]?.getD undef = .pointer (some ⟨w.heap.size + 1, 0, none⟩) := hA.sl (t := 3) (by decide)
                        have sv5 : ac.tmps[5]?.getD undef = .pointer (some ⟨w.heap.size + 1 + 1 + 1, 0, none⟩) := hA.sl (t := 5) (by decide)
                        have sv9 : ac.tmps[9]?.getD undef = .int .i64 j := hA.sl (t := 9) (by decide)
                        have sv12 : ac.tmps[12]?.getD undef = .pointer (some ⟨wn.heap.size, 0, none⟩) := hA.sl (t := 12) (by decide)
                        obtain ⟨xm0, xm1, xm2, xm3, xm4, xm5⟩ := HBOX.out.later hB
                        have xb5 := cells_frame hB xb5
                        have p0 := cells_frame hB p0
                        have xd0 := cells_frame hB xd0
                        have xd1 := cells_frame hB xd1
                        have xd2 := cells_frame hB xd2
                        have xd3 := cells_frame hB xd3
                        have xd4 := cells_frame hB xd4
                        have xd5 := cells_frame hB xd5
                        simp at ho
                        subst ho
                        obtain ⟨ds, y8, hL⟩ := hU 8 (by omega)
                        obtain ⟨q0, q1, q2, q3, q4, q4l, q4c, q5, q5l, q5c, rfl⟩ := hL.six
                        have y8 : ac.tmps[95]?.getD undef = .agg #[.int .i64 q0, .bool q1, .int .i64 q2, .string q3, .slice q4 q4l q4c, .slice q5 q5l q5c] := y8
                        clear hU hA
                        have yf : ∀ k, wb.frozen? ⟨w.heap.size + 1 + 1 + 1, k, none⟩ = false := fun k => (hB.frozen (p := ⟨w.heap.size + 1 + 1 + 1, k, none⟩) hbl).trans (HFZ.out k)
                        have YF := Lib.hid yf
                        have ybx := HBOX.out.later hB
                        have HLQ := Lib.hid hL
                        clear xb5 p0 xd0 xd1 xd2 xd3 xd4 xd5 hL
                        go_simp
                        refine hK _ ⟨q0, q1, q2, q3, q4, q4l, q4c, q5, q5l, q5c, ybx.row _ _ _ _ _ _, (HLQ.out.bound.keepB (fun x hx hlt => setRow_heap _ [.int .i64 q0, .bool q1, .int .i64 q2, .string q3, .slice q4 q4l q4c, .slice q5 q5l q5c] _ _ _ (by
                            rcases hx.1 with h | h
                            · have := h.2; omega
                            · omega))).weaken (fun x hx => hx.1.1), (fun k => (setRow_frozen _ [.int .i64 q0, .bool q1, .int .i64 q2, .string q3, .slice q4 q4l q4c, .slice q5 q5l q5c] _ _ _).trans (YF.out k)), (fun b hb hn => (setRow_heap _ [.int .i64 q0, .bool q1, .int .i64 q2, .string q3, .slice q4 q4l q4c, .slice q5 q5l q5c] _ _ _ hn).trans ((hB.block b (by omega)).trans (KP.out b hb hn))), ?_, setRow_below _ (Nat.le_add_right w.heap.size 3) [.int .i64 q0, .bool q1, .int .i64 q2, .string q3, .slice q4 q4l q4c, .slice q5 q5l q5c] _ _ (bstep HBW.out hB HBW.out.size)⟩
                        have h1 := setRow_size (w.heap.size + 1 + 1 + 1) [.int .i64 q0, .bool q1, .int .i64 q2, .string q3, .slice q4 q4l q4c, .slice q5 q5l q5c] wb 0
                        have h2 := hB.size
                        exact Nat.le_trans (by omega : v.heap.size ≤ wb.heap.size) (Nat.le_of_eq h1.symm)
                      case s5 =>
                        intro ac wn hA hF
                        have hs : slots 9 (fun i => 87 + i) = [87, 88, 89, 90, 91, 92, 93, 94, 95] := by rfl
                        rw [hs] at hA
                        have hac := hA.act (fun t ht => by
                          have h8 : t = 87 ∨ t = 88 ∨ t = 89 ∨ t = 90 ∨ t = 91 ∨ t = 92 ∨ t = 93 ∨ t = 94 ∨ t = 95 := by simpa using ht
                          rcases h8 with rfl | rfl | rfl | rfl | rfl | rfl | rfl | rfl | rfl <;> exact Nat.lt_of_lt_of_le (by decide : _ < 97) (Nat.le_refl 97))
                        rw [List.foldl_cons, List.foldl_cons, List.foldl_cons, List.foldl_cons, List.foldl_cons, List.foldl_cons, List.foldl_cons, List.foldl_cons, List.foldl_cons, List.foldl_nil] at hac
                        generalize sl ac 87 = x87 at hac
                        generalize sl ac 88 = x88 at hac
                        generalize sl ac 89 = x89 at hac
                        generalize sl ac 90 = x90 at hac
                        generalize sl ac 91 = x91 at hac
                        generalize sl ac 92 = x92 at hac
                        generalize sl ac 93 = x93 at hac
                        generalize sl ac 94 = x94 at hac
                        generalize sl ac 95 = x95 at hac
                        clear hA hs
                        subst hac
                        simp only [Act.put, List.setIfInBounds_toArray, List.set_cons_succ, List.set_cons_zero]
                        obtain ⟨n0, n1, n2, n3, n4, n4l, n4c, n5, n5l, n5c, NB, NL, NF, NK, NS, NW⟩ := hF
                        have NB' := Lib.hid NB
                        clear NB HLI HFZ KP HBW HBOX xb5 p0 hbl hbl2 HX XD xd0 xd1 xd2 xd3 xd4 xd5 hsz
                        go_wp2_with fail
                        go_roundw
                        case rel => exact ⟨j + 1, _, n0, n1, n2, n3, n4, n4l, n4c, n5, n5l, n5c, by omega, by go_num, HRN, NB'.out, NL, NF, NK, NS, NW⟩
                        case measure => simp [intOf]; omega

                    · have hnd : diffAt (findR m[j].1 m1) (some m[j].2) = some m[j].2 := diffAt_other (by rw [hr]; exact fun h => h5 ⟨ky.symm.trans h.1, kj.symm.trans h.2⟩) hnn
                      have HRN := Lib.hid (HRD.out.put HAM.out.2 hjl hnd)
                      have HNW : Hid (mk5 (rputG m[j].1 m[j].2 false (mk5 o).map) = mk5 (putR m[j].1 m[j].2 o)) := by
                        show _ = _
                        rw [show (mk5 o).map = o from rfl, rputG_put _ _ HRD.out.asc]

                      have g5 : (f0 == 5) = false ∨ (f0 == 5) = true ∧ (d0 == 5) = false := by
                        by_cases h1 : f0 = 5
                        · exact .inr ⟨by simp [h1], by have : d0 ≠ 5 := fun e => h5 ⟨h1, e⟩; simp [this]⟩
                        · exact .inl (by simp [h1])
                      clear hr hnd hnn ky kj h5
                      rcases g5 with g5 | ⟨g5, g6⟩
                      all_goals
                        go_upto_region 16 with fail
                        have b3 := B6.out
                        have XD := XD6
                        have HX : Hid (Lies w6 (fun b => ((R1 b ∨ (R2 b ∧ b < w0.heap.size)) ∧ b < w1.heap.size) ∨ w.heap.size + 3 < b) m[j].2 #[.int .i64 d0, .bool d1, .int .i64 d2, .string d3, .slice d4 d4l d4c, .slice d5 d5l d5c]) := HD6.out.weaken fun b hb => .inl ⟨.inr hb, by have := hb.2; omega⟩
                        have HBOX1 : Hid (BoxA w6 (w.heap.size + 1 + 1 + 1) (.int .i64 t0) (.bool t1) (.int .i64 t2) (.string t3) (.slice t4 t4l t4c) (.slice t5 t5l t5c)) := Lib.hid (HBOX.out.later b3)
                        have HLI1 := Lib.hid (HLI.out.later b3)
                        have HFZ1 : Hid (∀ k, w6.frozen? ⟨w.heap.size + 1 + 1 + 1, k, none⟩ = false) := fun k => (b3.frozen (p := ⟨w.heap.size + 1 + 1 + 1, k, none⟩) hbl).trans (HFZ.out k)
                        have KP1 : Hid (∀ b, b < v.heap.size → b ≠ w.heap.size + 3 → w6.heap[b]? = v.heap[b]?) := fun b' hb' hn => (b3.block b' (by omega)).trans (KP.out b' hb' hn)
                        have SZ1 : v.heap.size ≤ w6.heap.size := Nat.le_trans hsz b3.size
                        have HBW1 : Hid (Below w.heap.size w w6) := bstep HBW.out b3 HBW.out.size
                        have hbl1 : w.heap.size + 1 + 1 + 1 < w6.heap.size := Nat.lt_of_lt_of_le hbl b3.size
                        have xb51 : w6.cell? ⟨w.heap.size + 1, 5, none⟩ = some (.slice (some ⟨bm, om, none⟩) m.length mc) := cells_frame b3 XB5.out
                        have p01 : w6.cell? ⟨bm, om + j * 7, none⟩ = some (.string m[j].1) := cells_frame b3 P0.out
                        clear b3 xd0 xf0 XF6 XD6 HF6 HD6 xb5 p0
                        clear HBOX HLI HFZ KP HBW hbl hbl2 hsz hbr
                        generalize w6 = wp at *
                        have HBOX := HBOX1
                        have HLI := HLI1
                        have HFZ := HFZ1
                        have KP := KP1
                        have HBW := HBW1
                        have hbl := hbl1
                        have hsz := SZ1
                        have hbl2 : w.heap.size + 3 < wp.heap.size := hbl1
                        have xb5 := xb51
                        have p0 := p01
                        clear HBOX1 HLI1 HFZ1 KP1 HBW1 hbl1 SZ1 xb51 p01
                        obtain ⟨xd0, xd1, xd2, xd3, xd4, xd5⟩ := XD.out
                        go_upto_region 16 with fail
                        refine wp_region_specs2 wp 9 (fun i => 87 + i) (fun i x wx => match i with | 0 => x = .agg #[.int .i64 t0, .bool t1, .int .i64 t2, .string t3, .slice t4 t4l t4c, .slice t5 t5l t5c] | 1 => x = .pointer (some ⟨w.heap.size + 1, 5, none⟩) | 2 => x = .slice (some ⟨bm, om, none⟩) m.length mc | 3 => x = .int .i64 j | 4 => x = .pointer (some ⟨bm, om + j * 7, none⟩) | 5 => x = .pointer (some ⟨bm, om + j * 7, none⟩) | 6 => x = .string m[j].1 | 7 => x = .agg #[.int .i64 d0, .bool d1, .int .i64 d2, .string d3, .slice d4 d4l d4c, .slice d5 d5l d5c] | 8 => ∃ ds : Array Value, x = .agg ds ∧ Lies wx (fun b => ((R1 b ∨ (R2 b ∧ b < w0.heap.size)) ∧ b < w1.heap.size) ∨ w.heap.size + 3 < b) (mk5 (putR m[j].1 m[j].2 o)) ds | _ => True) (fun _ wx => ∃ (t0 : Int) (t1 : Bool) (t2 : Int) (t3 : ByteArray) (t4 : Option Addr) (t4l t4c : Nat) (t5 : Option Addr) (t5l t5c : Nat), BoxA wx (w.heap.size + 1 + 1 + 1) (.int .i64 t0) (.bool t1) (.int .i64 t2) (.string t3) (.slice t4 t4l t4c) (.slice t5 t5l t5c) ∧ Hid (Lies wx (fun b => ((R1 b ∨ (R2 b ∧ b < w0.heap.size)) ∧ b < w1.heap.size) ∨ w.heap.size + 3 < b) (mk5 (putR m[j].1 m[j].2 o)) #[.int .i64 t0, .bool t1, .int .i64 t2, .string t3, .slice t4 t4l t4c, .slice t5 t5l t5c]) ∧ Hid (∀ k, wx.frozen? ⟨w.heap.size + 1 + 1 + 1, k, none⟩ = false) ∧ Hid (∀ b, b < v.heap.size → b ≠ w.heap.size + 3 → wx.heap[b]? = v.heap[b]?) ∧ v.heap.size ≤ wx.heap.size ∧ Hid (Below w.heap.size w wx)) (by kernel_rfl) (by kernel_rfl) ?s1 (Below.refl _ _) ?s2 ?s3 ?s4 ?s5
                        case s1 => intro i hi; exact Nat.lt_of_lt_of_le (show 87 + i < 97 by omega) (Nat.le_refl 97)
                        case s2 =>
                          intro i x w1 w2 hb hU
                          match i, hU with
                          | 8, ⟨ds, e, hl⟩ => exact ⟨ds, e, hl.later hb⟩
                          | 0, h | 1, h | 2, h | 3, h | 4, h | 5, h | 6, h | 7, h => exact h
                          | (n + 9), _ => trivial
                        case s3 =>
                          intro i o ac wb K' ho hi hA hB hdep hK
                          have sv3 : ac.tmps[3]?.getD undef = .pointer (some ⟨w.heap.size + 1, 0, none⟩) := hA.sl (t := 3) (by decide)
                          have sv5 : ac.tmps[5]?.getD undef = .pointer (some ⟨w.heap.size + 1 + 1 + 1, 0, none⟩) := hA.sl (t := 5) (by decide)
                          have sv9 : ac.tmps[9]?.getD undef = .int .i64 j := hA.sl (t := 9) (by decide)
                          have sv12 : ac.tmps[12]?.getD undef = .pointer (some ⟨wn.heap.size, 0, none⟩) := hA.sl (t := 12) (by decide)
                          obtain ⟨xm0, xm1, xm2, xm3, xm4, xm5⟩ := HBOX.out.later hB
                          have xb5 := cells_frame hB xb5
                          have p0 := cells_frame hB p0
                          have xd0 := cells_frame hB xd0
                          have xd1 := cells_frame hB xd1
                          have xd2 := cells_frame hB xd2
                          have xd3 := cells_frame hB xd3
                          have xd4 := cells_frame hB xd4
                          have xd5 := cells_frame hB xd5
                          rcases (by omega : i = 0 ∨ i = 1 ∨ i = 2 ∨ i = 3 ∨ i = 4 ∨ i = 5 ∨ i = 6 ∨ i = 7 ∨ i = 8) with rfl | rfl | rfl | rfl | rfl | rfl | rfl | rfl | rfl
                          · simp at ho
                            subst ho
                            clear hdep hA
                            go_simp
                            exact hK _ wb (Below.refl _ _) rfl
                          · simp at ho
                            subst ho
                            clear hdep hA
                            go_simp
                            exact hK _ wb (Below.refl _ _) rfl
                          · simp at ho
                            subst ho
                            have y1 : ac.tmps[88]?.getD undef = .pointer (some ⟨w.heap.size + 1, 5, none⟩) := hdep { on := 1, ground := .data } (by simp) rfl
                            clear hdep hA
                            go_simp
                            exact hK _ wb (Below.refl _ _) rfl
                          · simp at ho
                            subst ho
                            clear hdep hA
                            go_simp
                            exact hK _ wb (Below.refl _ _) rfl
                          · simp at ho
                            subst ho
                            have y2 : ac.tmps[89]?.getD undef = .slice (some ⟨bm, om, none⟩) m.length mc := hdep { on := 2, ground := .data } (by simp) rfl
                            have y3 : ac.tmps[90]?.getD undef = .int .i64 j := hdep { on := 3, ground := .data } (by simp) rfl
                            clear hdep hA
                            go_simp
                            exact hK _ wb (Below.refl _ _) rfl
                          · simp at ho
                            subst ho
                            have y4 : ac.tmps[91]?.getD undef = .pointer (some ⟨bm, om + j * 7, none⟩) := hdep { on := 4, ground := .data } (by simp) rfl
                            clear hdep hA
                            go_simp
                            exact hK _ wb (Below.refl _ _) rfl
                          · simp at ho
                            subst ho
                            have y5 : ac.tmps[92]?.getD undef = .pointer (some ⟨bm, om + j * 7, none⟩) := hdep { on := 5, ground := .data } (by simp) rfl
                            clear hdep hA
                            go_simp
                            exact hK _ wb (Below.refl _ _) rfl
                          · simp at ho
                            subst ho
                            clear hdep hA
                            go_simp
                            exact hK _ wb (Below.refl _ _) rfl
                          · simp at ho
                            subst ho
                            have y0 : ac.tmps[87]?.getD undef = .agg #[.int .i64 t0, .bool t1, .int .i64 t2, .string t3, .slice t4 t4l t4c, .slice t5 t5l t5c] := hdep { on := 0, ground := .data } (by simp) rfl
                            have y6 : ac.tmps[93]?.getD undef = .string m[j].1 := hdep { on := 6, ground := .data } (by simp) rfl
                            have y7 : ac.tmps[94]?.getD undef = .agg #[.int .i64 d0, .bool d1, .int .i64 d2, .string d3, .slice d4 d4l d4c, .slice d5 d5l d5c] := hdep { on := 7, ground := .data } (by simp) rfl
                            clear hdep hA
                            go_simp
                            refine (rPut_any HLI.out HX.out m[j].1 hko hol wb hB).mono ?_
                            rintro e w5 ⟨ds, rfl, hL, hb5⟩
                            have hL := hL
                            rw [HNW.out] at hL
                            have hbs := hB.size
                            refine hK _ w5 hb5 ⟨ds, rfl, hL.weaken fun b hb => ?_⟩
                            rcases hb with ⟨h | h, h2⟩ | h
                            · exact h
                            · exact h
                            · exact .inr (by omega)
                        case s4 =>
                          intro o ac wb K' ho hA hB hU hK
                          have sv3 : ac.tmps[3]?.getD undef = .pointer (some ⟨w.heap.size + 1, 0, none⟩) := hA.sl (t := 3) (by decide)
                          have sv5 : ac.tmps[5]?.getD undef = .pointer (some ⟨w.heap.size + 1 + 1 + 1, 0, none⟩) := hA.sl (t := 5) (by decide)
                          have sv9 : ac.tmps[9]?.getD undef = .int .i64 j := hA.sl (t := 9) (by decide)
                          have sv12 : ac.tmps[12]?.getD undef = .pointer (some ⟨wn.heap.size, 0, none⟩) := hA.sl (t := 12) (by decide)
                          obtain ⟨xm0, xm1, xm2, xm3, xm4, xm5⟩ := HBOX.out.later hB
                          have xb5 := cells_frame hB xb5
                          have p0 := cells_frame hB p0
                          have xd0 := cells_frame hB xd0
                          have xd1 := cells_frame hB xd1
                          have xd2 := cells_frame hB xd2
                          have xd3 := cells_frame hB xd3
                          have xd4 := cells_frame hB xd4
                          have xd5 := cells_frame hB xd5
                          simp at ho
                          subst ho
                          obtain ⟨ds, y8, hL⟩ := hU 8 (by omega)
                          obtain ⟨q0, q1, q2, q3, q4, q4l, q4c, q5, q5l, q5c, rfl⟩ := hL.six
                          have y8 : ac.tmps[95]?.getD undef = .agg #[.int .i64 q0, .bool q1, .int .i64 q2, .string q3, .slice q4 q4l q4c, .slice q5 q5l q5c] := y8
                          clear hU hA
                          have yf : ∀ k, wb.frozen? ⟨w.heap.size + 1 + 1 + 1, k, none⟩ = false := fun k => (hB.frozen (p := ⟨w.heap.size + 1 + 1 + 1, k, none⟩) hbl).trans (HFZ.out k)
                          have YF := Lib.hid yf
                          have ybx := HBOX.out.later hB
                          have HLQ := Lib.hid hL
                          clear xb5 p0 xd0 xd1 xd2 xd3 xd4 xd5 hL
                          go_simp
                          refine hK _ ⟨q0, q1, q2, q3, q4, q4l, q4c, q5, q5l, q5c, ybx.row _ _ _ _ _ _, (HLQ.out.bound.keepB (fun x hx hlt => setRow_heap _ [.int .i64 q0, .bool q1, .int .i64 q2, .string q3, .slice q4 q4l q4c, .slice q5 q5l q5c] _ _ _ (by
                              rcases hx.1 with h | h
                              · have := h.2; omega
                              · omega))).weaken (fun x hx => hx.1.1), (fun k => (setRow_frozen _ [.int .i64 q0, .bool q1, .int .i64 q2, .string q3, .slice q4 q4l q4c, .slice q5 q5l q5c] _ _ _).trans (YF.out k)), (fun b hb hn => (setRow_heap _ [.int .i64 q0, .bool q1, .int .i64 q2, .string q3, .slice q4 q4l q4c, .slice q5 q5l q5c] _ _ _ hn).trans ((hB.block b (by omega)).trans (KP.out b hb hn))), ?_, setRow_below _ (Nat.le_add_right w.heap.size 3) [.int .i64 q0, .bool q1, .int .i64 q2, .string q3, .slice q4 q4l q4c, .slice q5 q5l q5c] _ _ (bstep HBW.out hB HBW.out.size)⟩
                          have h1 := setRow_size (w.heap.size + 1 + 1 + 1) [.int .i64 q0, .bool q1, .int .i64 q2, .string q3, .slice q4 q4l q4c, .slice q5 q5l q5c] wb 0
                          have h2 := hB.size
                          exact Nat.le_trans (by omega : v.heap.size ≤ wb.heap.size) (Nat.le_of_eq h1.symm)
                        case s5 =>
                          intro ac wn hA hF
                          have hs : slots 9 (fun i => 87 + i) = [87, 88, 89, 90, 91, 92, 93, 94, 95] := by rfl
                          rw [hs] at hA
                          have hac := hA.act (fun t ht => by
                            have h8 : t = 87 ∨ t = 88 ∨ t = 89 ∨ t = 90 ∨ t = 91 ∨ t = 92 ∨ t = 93 ∨ t = 94 ∨ t = 95 := by simpa using ht
                            rcases h8 with rfl | rfl | rfl | rfl | rfl | rfl | rfl | rfl | rfl <;> exact Nat.lt_of_lt_of_le (by decide : _ < 97) (Nat.le_refl 97))
                          rw [List.foldl_cons, List.foldl_cons, List.foldl_cons, List.foldl_cons, List.foldl_cons, List.foldl_cons, List.foldl_cons, List.foldl_cons, List.foldl_cons, List.foldl_nil] at hac
                          generalize sl ac 87 = x87 at hac
                          generalize sl ac 88 = x88 at hac
                          generalize sl ac 89 = x89 at hac
                          generalize sl ac 90 = x90 at hac
                          generalize sl ac 91 = x91 at hac
                          generalize sl ac 92 = x92 at hac
                          generalize sl ac 93 = x93 at hac
                          generalize sl ac 94 = x94 at hac
                          generalize sl ac 95 = x95 at hac
                          clear hA hs
                          subst hac
                          simp only [Act.put, List.setIfInBounds_toArray, List.set_cons_succ, List.set_cons_zero]
                          obtain ⟨n0, n1, n2, n3, n4, n4l, n4c, n5, n5l, n5c, NB, NL, NF, NK, NS, NW⟩ := hF
                          have NB' := Lib.hid NB
                          clear NB HLI HFZ KP HBW HBOX xb5 p0 hbl hbl2 HX XD xd0 xd1 xd2 xd3 xd4 xd5 hsz
                          go_wp2_with fail
                          go_roundw
                          case rel => exact ⟨j + 1, _, n0, n1, n2, n3, n4, n4l, n4c, n5, n5l, n5c, by omega, by go_num, HRN, NB'.out, NL, NF, NK, NS, NW⟩
                          case measure => simp [intOf]; omega

            · obtain rfl : j = m.length := by omega
              have HEO : Hid (mk5 o = mk5 (diffR m1 m)) := by
                show _ = _
                rw [HRD.out.done HAM.out.1 HAM.out.2]
              have hL := HLI.out
              rw [HEO.out] at hL
              have HL := Lib.hid hL
              obtain ⟨xo0, xo1, xo2, xo3, xo4, xo5⟩ := HBOX.out
              have z2 : ∀ j, wr.cell? ⟨w.heap.size + 1 + 1, j, none⟩ = (#[.int .i64 0, .bool false, .int .i64 0, .string ⟨#[]⟩, .slice none 0 0, .slice none 0 0] : Array Value)[j]? := fun j => (World.cell?_of_block (KP.out (w.heap.size + 2) (by omega) (by omega))).trans (Q2.out j)
              have z3 : ∀ j, wr.frozen? ⟨w.heap.size + 1 + 1, j, none⟩ = false := fun j => (World.frozen?_of_block (KP.out (w.heap.size + 2) (by omega) (by omega))).trans (Q3.out j)
              have Z2 := Lib.hid z2
              clear hL HLI xa0 xa1 xa2 xa3 xa4 xa5 xb0 xb1 xb2 xb3 xb4 HEO
              go_wp2_with fail
              refine ret_cells wr (w.heap.size + 2) [.int .i64 t0, .bool t1, .int .i64 t2, .string t3, .slice t4 t4l t4c, .slice t5 t5l t5c] rfl Try.results25 rfl rfl DD.out HU.out Try.sizeV (fun i hi => ⟨_, (Z2.out i).trans (Array.getElem?_eq_getElem (show i < 6 from hi))⟩) ?_
              exact ⟨_, rfl, (HL.out.keepB (fun x hx _ => setRow_heap _ [.int .i64 t0, .bool t1, .int .i64 t2, .string t3, .slice t4 t4l t4c, .slice t5 t5l t5c] _ _ _ (by
                rcases hx with h | h
                · have := h.2; omega
                · omega))).weaken (fun x hx => hx.1.imp id (fun h => by omega)), setRow_below _ (by omega) [.int .i64 t0, .bool t1, .int .i64 t2, .string t3, .slice t4 t4l t4c, .slice t5 t5l t5c] _ _ HBW.out⟩

end Go.Proofs.Ytfhonjjhladddaa
