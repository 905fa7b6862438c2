/-
  TreeSizes, walked.
-/
import Derived.Test.YtgobgjnnhgcedaaMapNil
import Derived.Test.YtgobgjnnhgcedaaMakes
import Derived.Test.YtgobgjnnhgcedaaTruth
import Derived.Test.YtgobgjnnhgcedaaRight
import Derived.Test.YtgobgjnnhgcedaaPut
import Derived.Laws.IdiomStrings
set_option linter.unusedVariables false
set_option linter.unusedSimpArgs false
namespace Go.Proofs.Ytgobgjnnhgcedaa
open Go.RowKit Go.Sort

/-- The key of value j: a letter. -/
def keyOf (j : Nat) : ByteArray := ⟨#[UInt8.ofNat (97 + j)]⟩
theorem letters_lt : ∀ j, j < 8 → ∀ i, i < j → Op.bytesLess [UInt8.ofNat (97 + i)] [UInt8.ofNat (97 + j)] = true := by decide
theorem keyOf_lt (j : Nat) (hj : j < 8) (i : Nat) (hi : i < j) : ltS (keyOf i) (keyOf j) = true := by
  unfold ltS
  rw [ByteArray.toList_eq, ByteArray.toList_eq]
  exact letters_lt j hj i hi

def pairsTo (ts : List T) (j : Nat) : List (ByteArray × T) := (ts.take j).zipIdx.map fun x => (keyOf x.2, x.1)
def mapTo (ts : List T) (j : Nat) : T := .mk 5 false 0 ⟨#[]⟩ [] (pairsTo ts j)
theorem pairsTo_len (ts : List T) (j : Nat) (h : j ≤ ts.length) : (pairsTo ts j).length = j := by simp [pairsTo]; omega
theorem pairsTo_succ (ts : List T) (j : Nat) (h : j < ts.length) : pairsTo ts (j + 1) = pairsTo ts j ++ [(keyOf j, ts[j])] := by
  unfold pairsTo
  rw [List.take_succ_eq_append_getElem h, List.zipIdx_append, List.map_append]
  simp [Nat.min_eq_left (Nat.le_of_lt h)]
theorem pairsTo_snd (ts : List T) (j : Nat) : (pairsTo ts j).map (·.2) = ts.take j := by
  apply List.ext_getElem
  · simp [pairsTo]
  · intro i h1 h2
    simp [pairsTo]
theorem pairsTo_mem (ts : List T) (j : Nat) (p : ByteArray × T) (h : p ∈ pairsTo ts j) : ∃ i, i < j ∧ p.1 = keyOf i := by
  unfold pairsTo at h
  obtain ⟨x, hx, rfl⟩ := List.mem_map.1 h
  obtain ⟨i, hi, rfl⟩ := List.getElem_of_mem hx
  refine ⟨i, ?_, by simp⟩
  simp at hi
  omega
theorem put_last (key : ByteArray) (x : T) : ∀ ps : List (ByteArray × T), (∀ p ∈ ps, ltS p.1 key = true) → putR key x ps = ps ++ [(key, x)]
  | [], _ => rfl
  | p :: r, h => by
    rw [putR_lt (h p (by simp)), put_last key x r fun q hq => h q (by simp [hq])]
    rfl
theorem mapTo_put (ts : List T) (j : Nat) (h : j < ts.length) (h8 : j < 8) : (mapTo ts j).put (keyOf j) ts[j] = mapTo ts (j + 1) := by
  have e : (mapTo ts j).pairs = pairsTo ts j := by rw [mapTo, T.pairs, if_pos rfl]
  rw [T.put, e, put_last _ _ _ fun p hp => by
    obtain ⟨i, hi, e⟩ := pairsTo_mem ts j p hp
    rw [e]
    exact keyOf_lt j h8 i hi, ← pairsTo_succ ts j h]
  rfl
theorem mapTo_size (ts : List T) : (mapTo ts ts.length).size = 1 + (ts.map T.size).sum := by
  rw [mapTo, T.size_mk]
  have : (pairsTo ts ts.length).map (fun p => p.2.size) = ts.map T.size := by
    have h := congrArg (List.map T.size) (pairsTo_snd ts ts.length)
    rw [List.take_length, List.map_map] at h
    exact h
  rw [this]
  simp
theorem mapTo_depth (ts : List T) : (mapTo ts ts.length).depth = (ts.map T.depth).foldr max 0 + 1 := by
  rw [mapTo, T.depth_mk]
  have : (pairsTo ts ts.length).map (fun p => p.2.depth) = ts.map T.depth := by
    have h := congrArg (List.map T.depth) (pairsTo_snd ts ts.length)
    rw [List.take_length, List.map_map] at h
    exact h
  rw [this]
  simp
theorem listOf_size (ts : List T) : (T.listOf ts).size = 1 + (ts.map T.size).sum := by
  rw [T.listOf, T.size_mk]
  simp
theorem listOf_depth (ts : List T) : (T.listOf ts).depth = (ts.map T.depth).foldr max 0 + 1 := by
  rw [T.listOf, T.depth_mk]
  simp


theorem good_sizeS {t : T} (h : t.good = true) : t.size ≤ 4096 := by
  unfold T.good at h
  simp only [Bool.and_eq_true, decide_eq_true_eq] at h
  have h2 := h.2
  unfold T.check at h2
  by_cases hd : 16 < t.depth
  · rw [if_pos hd] at h2; omega
  · by_cases hz : 4096 < t.size
    · rw [if_neg hd, if_pos hz] at h2; omega
    · omega
theorem psum_bound {α : Type} (f : α → Nat) (l : List α) (B : Nat) (hf : ∀ i (h : i < l.length), f l[i] ≤ B) : ∀ j, j ≤ l.length → psum f l j ≤ j * B
  | 0, _ => by rw [psum_zero]; omega
  | j + 1, h => by
    have h1 := psum_bound f l B hf j (by omega)
    have h2 := hf j (by omega)
    rw [psum_succ f l j (by omega), Nat.succ_mul]; omega
theorem pmax_bound {α : Type} (f : α → Nat) (l : List α) (B : Nat) (hf : ∀ i (h : i < l.length), f l[i] ≤ B) : ∀ j, j ≤ l.length → pmax f l j ≤ B
  | 0, _ => by rw [pmax_zero]; omega
  | j + 1, h => by
    have h1 := pmax_bound f l B hf j (by omega)
    have h2 := hf j (by omega)
    rw [pmax_succ f l j (by omega)]; omega

/-- Six cells of a block. -/
def BoxS (w : World) (b : Nat) (c0 c1 c2 c3 c4 c5 : Value) : Prop :=
  w.cell? ⟨b, 0, none⟩ = some c0 ∧ w.cell? ⟨b, 1, none⟩ = some c1 ∧ w.cell? ⟨b, 2, none⟩ = some c2 ∧ w.cell? ⟨b, 3, none⟩ = some c3 ∧ w.cell? ⟨b, 4, none⟩ = some c4 ∧ w.cell? ⟨b, 5, none⟩ = some c5
theorem BoxS.later {w w' : World} {b : Nat} {c0 c1 c2 c3 c4 c5 : Value} (h : BoxS w b c0 c1 c2 c3 c4 c5) (hb : Below w.heap.size w w') : BoxS w' b c0 c1 c2 c3 c4 c5 :=
  ⟨cells_frame hb h.1, cells_frame hb h.2.1, cells_frame hb h.2.2.1, cells_frame hb h.2.2.2.1, cells_frame hb h.2.2.2.2.1, cells_frame hb h.2.2.2.2.2⟩
theorem BoxS.new (w : World) (c0 c1 c2 c3 c4 c5 : Value) (ty : TypeId) : BoxS (w.alloc (.cells #[c0, c1, c2, c3, c4, c5] ty)) w.heap.size c0 c1 c2 c3 c4 c5 := by
  refine ⟨?_, ?_, ?_, ?_, ?_, ?_⟩ <;> rw [World.cell?_alloc_new] <;> rfl
theorem BoxS.row {W : World} {b : Nat} {c0 c1 c2 c3 c4 c5 : Value} (h : BoxS W b c0 c1 c2 c3 c4 c5) (d0 d1 d2 d3 d4 d5 : Value) : BoxS (setRow W b 0 [d0, d1, d2, d3, d4, d5]) b d0 d1 d2 d3 d4 d5 := by
  have key : ∀ i (hi : i < 6), (setRow W b 0 [d0, d1, d2, d3, d4, d5]).cell? ⟨b, 0 + i, none⟩ = some [d0, d1, d2, d3, d4, d5][i] := setRow_cell b [d0, d1, d2, d3, d4, d5] W 0 fun i hi => by
    rw [Nat.zero_add]
    have hi6 : i < 6 := hi
    rcases (by omega : i = 0 ∨ i = 1 ∨ i = 2 ∨ i = 3 ∨ i = 4 ∨ i = 5) with rfl | rfl | rfl | rfl | rfl | rfl
    · exact ⟨_, h.1⟩
    · exact ⟨_, h.2.1⟩
    · exact ⟨_, h.2.2.1⟩
    · exact ⟨_, h.2.2.2.1⟩
    · exact ⟨_, h.2.2.2.2.1⟩
    · exact ⟨_, h.2.2.2.2.2⟩
  exact ⟨key 0 (by omega), key 1 (by omega), key 2 (by omega), key 3 (by omega), key 4 (by omega), key 5 (by omega)⟩
theorem BoxS.lt {W : World} {b : Nat} {c0 c1 c2 c3 c4 c5 : Value} (h : BoxS W b c0 c1 c2 c3 c4 c5) : b < W.heap.size := World.block_lt_of_cell? _ _ h.1

theorem letter_nat : ∀ j, j < 8 → (UInt8.ofNat (97 + j)).toNat = 97 + j := by decide
/-- string([]byte{'a' + j}). -/
theorem run_letter (w : World) (j : Nat) (hj : j < 8) : (convert 54 9 (.slice (some ⟨w.heap.size, 0, none⟩) 1 1)).run Try.prog (w.alloc (.cells #[.int .u8 (97 + (j : Int))] 5)) = .ok (.string (keyOf j)) (w.alloc (.cells #[.int .u8 (97 + (j : Int))] 5)) := by
  have := run_convert_bytes_back (P := Try.prog) (w.alloc (.cells #[.int .u8 (97 + (j : Int))] 5)) 54 9 5 ⟨w.heap.size, 0, none⟩ 1 [UInt8.ofNat (97 + j)] Try.underlying54 Try.underlying5 Try.underlying9 (fun i hi => by
    obtain rfl : i = 0 := by simpa using hi
    rw [Addr.add_lit, World.cell?_alloc_new]
    show some (Value.int .u8 (97 + (j : Int))) = some (Value.int .u8 ((UInt8.ofNat (97 + j)).toNat : Int))
    rw [letter_nat j hj]
    simp)
  exact this

set_option maxRecDepth 100000 in
set_option maxHeartbeats 8000000 in
theorem treeSizes_any {w0 : World} {R : Nat → Prop} {ts : List T} {a : Option Addr} {cap : Nat} {cl : Nat → Array Value} (h : SliceV w0 R ts a cap cl) (w : World) (hw : Below w0.heap.size w0 w) :
    Calls Try.prog 9 #[.slice a ts.length cap] w fun e w' => e = .returned (.bool true) ∧ Below w.heap.size w w' := by
  have H := Lib.hid h
  have hl := h.hdr
  have ll := hl.le
  have lx := hl.big
  clear h
  go_enter Try.func9, Try.ntmps9
  by_cases h8 : 8 < ts.length
  · have f1 : decide ((8 : Int) < (ts.length : Int)) = true := by simp; omega
    go_wp2_with fail
    refine (awake_any _).mono ?_
    rintro e w1 ⟨rfl, hb1⟩
    go_wp2_with fail
    go_ret
    exact ⟨rfl, hb1⟩
  have f1 : decide ((8 : Int) < (ts.length : Int)) = false := by simp; omega
  have HR := Lib.hid (right_any H.out w hw)
  go_wp2_with fail
  refine HR.out.mono ?_
  rintro e w1 ⟨rfl, hb1⟩
  cases hg : ts.all T.good with
  | false =>
    go_wp2_with fail
    refine (awake_any _).mono ?_
    rintro e w2 ⟨rfl, hb2⟩
    go_wp2_with fail
    go_ret
    exact ⟨rfl, bstep hb1 hb2 hb1.size⟩
  | true =>
    have hgs : Hid (∀ i (hi : i < ts.length), ts[i].size ≤ 4096) := fun i hi => good_sizeS (by simpa using List.all_eq_true.1 hg ts[i] (List.getElem_mem hi))
    clear hg
    go_wp2_with fail
    refine (tMap_nil _).mono ?_
    rintro e w2 ⟨rfl, hb2⟩
    have BM : Hid (BoxS (w2.alloc (.cells #[.int .i64 5, .bool false, .int .i64 0, .string ⟨#[]⟩, .slice none 0 0, .slice none 0 0] 25)) w2.heap.size (.int .i64 5) (.bool false) (.int .i64 0) (.string ⟨#[]⟩) (.slice none 0 0) (.slice none 0 0)) := BoxS.new _ _ _ _ _ _ _ _
    have LM : Hid (Lies (w2.alloc (.cells #[.int .i64 5, .bool false, .int .i64 0, .string ⟨#[]⟩, .slice none 0 0, .slice none 0 0] 25)) (fun b => w2.heap.size < b) (mapTo ts 0) #[.int .i64 5, .bool false, .int .i64 0, .string ⟨#[]⟩, .slice none 0 0, .slice none 0 0]) :=
      Lies.of_slices (m := []) wf5 wf0 empty_size (empty_sliceV _ _) (empty_sliceP _ _)
    have FM : Hid (∀ j, (w2.alloc (.cells #[.int .i64 5, .bool false, .int .i64 0, .string ⟨#[]⟩, .slice none 0 0, .slice none 0 0] 25)).frozen? ⟨w2.heap.size, j, none⟩ = false) := fun j => World.frozen?_alloc_new _ _ _ _
    have h12 := bstep hb1 hb2 hb1.size
    have hs2 := h12.size
    have DB : Hid (∀ i (hi : i < ts.length), ts[i].depth ≤ 4096) := fun i hi => Nat.le_trans (T.depth_le_size _) (hgs.out i hi)
    have PB := Lib.hid (psum_bound T.size ts 4096 hgs.out)
    have PD := Lib.hid (pmax_bound T.depth ts 4096 DB.out)
    have PS := Lib.hid (fun i => psum_succ T.size ts i)
    have PM := Lib.hid (fun i => pmax_succ T.depth ts i)
    have MP := Lib.hid (mapTo_put ts)
    have W2 := Lib.hid (bstep hw h12 hw.size)
    have H12 := Lib.hid h12
    clear hb1 hb2 h12 HR f1
    go_wp2_with fail
    go_loopw [3, 4, 6, 7, 21] (fun v3 v4 _ _ vi wr => ∃ (j : Nat) (m0 : Int) (m1 : Bool) (m2 : Int) (m3 : ByteArray) (m4 : Option Addr) (m4l m4c : Nat) (m5 : Option Addr) (m5l m5c : Nat), j ≤ ts.length ∧ vi = .int .i64 j ∧ v3 = .int .i64 ((1 + psum T.size ts j : Nat) : Int) ∧ v4 = .int .i64 ((pmax T.depth ts j : Nat) : Int) ∧
      BoxS wr w2.heap.size (.int .i64 m0) (.bool m1) (.int .i64 m2) (.string m3) (.slice m4 m4l m4c) (.slice m5 m5l m5c) ∧ Hid (Lies wr (fun b => w2.heap.size < b) (mapTo ts j) #[.int .i64 m0, .bool m1, .int .i64 m2, .string m3, .slice m4 m4l m4c, .slice m5 m5l m5c]) ∧ (∀ k, wr.frozen? ⟨w2.heap.size, k, none⟩ = false) ∧ Below w2.heap.size w2 wr) (fun _ _ _ _ vi _ => ts.length - (intOf vi).toNat)
    case atStart => exact ⟨0, _, _, _, _, _, _, _, _, _, _, by omega, rfl, by rw [psum_zero]; rfl, by rw [pmax_zero]; rfl, BM.out, LM.out, FM.out, (Below.refl _ _).alloc (Nat.le_refl _) _⟩
    case round =>
      obtain ⟨j, m0, m1, m2, m3, m4, m4l, m4c, m5, m5l, m5c, hj, rfl, rfl, rfl, hbox, hlies, hfz, hbw⟩ := hrel
      have hbr := bstep W2.out hbw W2.out.size
      have HBOX := Lib.hid hbox
      have hbl := hbox.lt
      have HFZ := Lib.hid hfz
      clear hbox hfz
      by_cases hjl : j < ts.length
      · obtain ⟨bl, ol, c0, c1, c2, c3, c4, c4l, c4c, c5, c5l, c5c, rfl, hcl, r0, r1, r2, r3, r4, r5⟩ := openL hbr H.out.hdr H.out.rows hjl (H.out.each j hjl)
        have hE := H.out.each j hjl
        rw [hcl] at hE
        have HE := Lib.hid hE
        have TS := Lib.hid (tSize_any hE)
        have TD := Lib.hid (tDepth_any hE)
        have g1 := hgs.out j hjl
        have g2 := DB.out j hjl
        have p1 := PS.out j hjl
        have p2 := PM.out j hjl
        have p3 := PB.out (j + 1) (by omega)
        have p4 := PD.out (j + 1) (by omega)
        have q1 := MP.out j hjl (by omega)
        clear hcl hE
        go_wp2_with fail
        have hv := Lib.hid ((Below.refl wr.heap.size wr).alloc (Nat.le_refl _) (.cells #[.int .i64 c0, .bool c1, .int .i64 c2, .string c3, .slice c4 c4l c4c, .slice c5 c5l c5c] 25))
        have BV : Hid (BoxS (wr.alloc (.cells #[.int .i64 c0, .bool c1, .int .i64 c2, .string c3, .slice c4 c4l c4c, .slice c5 c5l c5c] 25)) wr.heap.size (.int .i64 c0) (.bool c1) (.int .i64 c2) (.string c3) (.slice c4 c4l c4c) (.slice c5 c5l c5c)) := BoxS.new _ _ _ _ _ _ _ _
        have hrv := bstep hbr hv.out hbr.size
        refine (TS.out _ hrv (by omega)).mono ?_
        rintro e w3 ⟨rfl, hb3⟩
        have hv3 := Lib.hid (bstep hv.out hb3 (by simp))
        have e1 : IntKind.i64.wrap (((1 + psum T.size ts j : Nat) : Int) + ((ts[j].size : Nat) : Int)) = ((1 + psum T.size ts (j + 1) : Nat) : Int) := by rw [IntWalk.i64_in _ (by omega)]; omega
        obtain ⟨xv0, xv1, xv2, xv3, xv4, xv5⟩ := BV.out.later hb3
        clear r0 r1 r2 r3 r4 r5
        go_wp2_with fail
        refine (TD.out _ (bstep hrv hb3 hrv.size) (by omega)).mono ?_
        rintro e w4 ⟨rfl, hb4⟩
        have hv4 := Lib.hid (bstep hv3.out hb4 hv3.out.size)
        clear xv0 xv1 xv2 xv3 xv4 xv5
        obtain ⟨xv0, xv1, xv2, xv3, xv4, xv5⟩ := BV.out.later (bstep hb3 hb4 hb3.size)
        obtain ⟨xm0, xm1, xm2, xm3, xm4, xm5⟩ := HBOX.out.later hv4.out
        have e2 : max ((pmax T.depth ts j : Nat) : Int) ((ts[j].depth : Nat) : Int) = ((pmax T.depth ts (j + 1) : Nat) : Int) := by omega
        have hcv := run_letter w4 j (by omega)
        have hA4 := Lib.hid ((Below.refl w4.heap.size w4).alloc (Nat.le_refl _) (.cells #[.int .u8 (97 + (j : Int))] 5))
        have ym := HBOX.out.later (bstep hv4.out hA4.out hv4.out.size)
        have HP := tPut_any (hlies.out.later (bstep hv4.out hA4.out hv4.out.size)) (HE.out.later (bstep hrv (bstep (bstep hb3 hb4 hb3.size) hA4.out (by have := hb3.size; have := hb4.size; omega)) hrv.size)) (keyOf j) (by show 1 ≤ _; omega) (by
          have e : (mapTo ts j).pairs = pairsTo ts j := by rw [mapTo, T.pairs, if_pos rfl]
          rw [e, pairsTo_len ts j (by omega)]; omega) _ (Below.refl _ _)
        rw [q1] at HP
        have HP2 := Lib.hid HP
        obtain ⟨yv0, yv1, yv2, yv3, yv4, yv5⟩ := BV.out.later (bstep (bstep hb3 hb4 hb3.size) hA4.out (by have := hb3.size; have := hb4.size; omega))
        have E1 := Lib.hid e1
        have E2 := Lib.hid e2
        have P1 := Lib.hid p1
        have P2 := Lib.hid p2
        clear hb3 hb4 HP ym q1
        go_wp2_with fail
        all_goals
          refine HP2.out.mono ?_
          rintro e w5 ⟨dq, rfl, hLq, hb5⟩
          obtain ⟨q0, q1, q2, q3, q4, q4l, q4c, q5, q5l, q5c, rfl⟩ := hLq.six
          have hs4 := hv4.out.size
          have hs5 := hb5.size
          simp only [World.size_alloc] at hs5
          have hrw5 := Lib.hid (bstep (bstep hv4.out hA4.out hv4.out.size) hb5 (by have := hv4.out.size; simp only [World.size_alloc]; omega))
          have ybx := Lib.hid (HBOX.out.later hrw5.out)
          obtain ⟨zm0, zm1, zm2, zm3, zm4, zm5⟩ := ybx.out
          have yfz : ∀ k, w5.frozen? ⟨w2.heap.size, k, none⟩ = false := fun k => (hrw5.out.frozen (p := ⟨w2.heap.size, k, none⟩) hbl).trans (HFZ.out k)
          have YFZ := Lib.hid yfz
          have HLQ := Lib.hid hLq
          clear hLq hb5 xm0 xm1 xm2 xm3 xm4 xm5
          have E3 : Hid (((pmax T.depth ts (j + 1) : Nat) : Int) = max ((pmax T.depth ts j : Nat) : Int) ((ts[j].depth : Nat) : Int)) := e2.symm
          clear e2 e1
          go_wp2_with fail
          go_roundw
          case rel => exact ⟨j + 1, q0, q1, q2, q3, q4, q4l, q4c, q5, q5l, q5c, by omega, by go_num, val_int (by have := P1.out; omega), val_int (by have := E3.out; omega), (ybx.out.row _ _ _ _ _ _), (HLQ.out.keep (fun x hx => setRow_heap _ [.int .i64 q0, .bool q1, .int .i64 q2, .string q3, .slice q4 q4l q4c, .slice q5 q5l q5c] _ _ _ (by simp only [World.size_alloc] at hx; omega))).weaken (fun x hx => by simp only [World.size_alloc] at hx; omega), (fun k => (setRow_frozen _ [.int .i64 q0, .bool q1, .int .i64 q2, .string q3, .slice q4 q4l q4c, .slice q5 q5l q5c] _ _ _).trans (YFZ.out k)), setRow_below _ (Nat.le_refl _) [.int .i64 q0, .bool q1, .int .i64 q2, .string q3, .slice q4 q4l q4c, .slice q5 q5l q5c] _ _ (bstep hbw hrw5.out hbw.size)⟩
          case measure => simp [intOf]; omega
      · obtain rfl : j = ts.length := by omega
        have HLI := Lib.hid (tList_any H.out wr hbr)
        go_wp2_with fail
        refine HLI.out.mono ?_
        rintro e w6 ⟨dx, rfl, hLx, hb6⟩
        have hLx2 : Lies w6 (fun b => wr.heap.size ≤ b) (.mk 4 false 0 ⟨#[]⟩ ts []) dx := hLx
        have HLX := Lib.hid hLx
        have HLM := Lib.hid (hlies.out.later hb6)
        clear hLx
        cases hLx2 with
        | mk _ _ _ _ _ _ xa xc xb xd xcl xcm hk1 hk2 hk3 hk4 hk5 hk6 hk7 hk8 hk9 hk10 =>
          clear hk1 hk2 hk3 hk4 hk5 hk6 hk7 hk8 hk9 hk10
          have hA6 := Lib.hid ((Below.refl w6.heap.size w6).alloc (Nat.le_refl _) (.cells #[.int .i64 4, .bool false, .int .i64 0, .string ⟨#[]⟩, .slice xa ts.length xc, .slice xb 0 xd] 25))
          have BX : Hid (BoxS (w6.alloc (.cells #[.int .i64 4, .bool false, .int .i64 0, .string ⟨#[]⟩, .slice xa ts.length xc, .slice xb 0 xd] 25)) w6.heap.size (.int .i64 4) (.bool false) (.int .i64 0) (.string ⟨#[]⟩) (.slice xa ts.length xc) (.slice xb 0 xd)) := BoxS.new _ _ _ _ _ _ _ _
          have h6 := Lib.hid (bstep hb6 hA6.out hb6.size)
          have b1 := PB.out ts.length (Nat.le_refl _)
          have b2 := PD.out ts.length (Nat.le_refl _)
          have sz1 : (T.listOf ts).size = 1 + psum T.size ts ts.length := by rw [listOf_size, psum_all]
          have sz2 : (mapTo ts ts.length).size = 1 + psum T.size ts ts.length := by rw [mapTo_size, psum_all]
          have dp1 : (T.listOf ts).depth = pmax T.depth ts ts.length + 1 := by rw [listOf_depth, pmax_all]
          have dp2 : (mapTo ts ts.length).depth = pmax T.depth ts ts.length + 1 := by rw [mapTo_depth, pmax_all]
          have S1 := tSize_any HLX.out
          have S2 := tSize_any HLM.out
          have D1 := tDepth_any HLX.out
          have D2 := tDepth_any HLM.out
          rw [sz1] at S1
          rw [sz2] at S2
          rw [dp1] at D1
          rw [dp2] at D2
          have HS1 := Lib.hid S1
          have HS2 := Lib.hid S2
          have HD1 := Lib.hid D1
          have HD2 := Lib.hid D2
          have TT := fun w => tTruth_any 4 false 0 ⟨#[]⟩ xa ts.length xc xb 0 xd w
          have et : countsB 4 false 0 ⟨#[]⟩ ts.length 0 = decide ((0 : Int) < (ts.length : Int)) := by
            unfold countsB pos
            rw [if_neg (by decide), if_neg (by decide), if_neg (by decide), if_pos rfl]
            simp
          rw [et] at TT
          have HTT := Lib.hid TT
          clear S1 S2 D1 D2 TT et sz1 sz2 dp1 dp2
          generalize psum T.size ts ts.length = sn at *
          generalize pmax T.depth ts ts.length = dn at *
          have ew : IntKind.i64.wrap ((dn : Int) + 1) = (dn : Int) + 1 := IntWalk.i64_in _ (by omega)
          go_wp2_with fail
          generalize hv6 : w6.alloc (.cells #[.int .i64 4, .bool false, .int .i64 0, .string ⟨#[]⟩, .slice xa ts.length xc, .slice xb 0 xd] 25) = v6 at *
          refine (awake_any _).mono ?_
          rintro e w7 ⟨rfl, hb7⟩
          have h7 := Lib.hid (bstep hA6.out hb7 hA6.out.size)
          obtain ⟨x0, x1, x2, x3, x4, x5⟩ := BX.out.later hb7
          go_wp2_with fail
          refine (HS1.out _ h7.out (by omega)).mono ?_
          rintro e w8 ⟨rfl, hb8⟩
          have h8 := Lib.hid (bstep h7.out hb8 h7.out.size)
          have k8 := Lib.hid (bstep hb7 hb8 hb7.size)
          clear x0 x1 x2 x3 x4 x5
          obtain ⟨x0, x1, x2, x3, x4, x5⟩ := BX.out.later k8.out
          go_wp2_with fail
          refine (HD1.out _ h8.out (by omega)).mono ?_
          rintro e w9 ⟨rfl, hb9⟩
          have h9 := Lib.hid (bstep h8.out hb9 h8.out.size)
          have k9 := Lib.hid (bstep k8.out hb9 k8.out.size)
          clear x0 x1 x2 x3 x4 x5
          obtain ⟨x0, x1, x2, x3, x4, x5⟩ := HBOX.out.later (bstep hb6 h9.out hb6.size)
          go_wp2_with fail
          refine (HS2.out _ h9.out (by omega)).mono ?_
          rintro e w10 ⟨rfl, hb10⟩
          have h10 := Lib.hid (bstep h9.out hb10 h9.out.size)
          have k10 := Lib.hid (bstep k9.out hb10 k9.out.size)
          clear x0 x1 x2 x3 x4 x5
          obtain ⟨x0, x1, x2, x3, x4, x5⟩ := HBOX.out.later (bstep hb6 h10.out hb6.size)
          go_wp2_with fail
          refine (HD2.out _ h10.out (by omega)).mono ?_
          rintro e w11 ⟨rfl, hb11⟩
          have h11 := Lib.hid (bstep h10.out hb11 h10.out.size)
          have k11 := Lib.hid (bstep k10.out hb11 k10.out.size)
          clear x0 x1 x2 x3 x4 x5
          obtain ⟨x0, x1, x2, x3, x4, x5⟩ := BX.out.later k11.out
          go_wp2_with fail
          refine (HTT.out _).mono ?_
          rintro e w12 ⟨rfl, hb12⟩
          have h12 := Lib.hid (bstep h11.out hb12 h11.out.size)
          have hfin := Lib.hid (bstep H12.out (bstep hbw (bstep hb6 h12.out hb6.size) hbw.size) H12.out.size)
          clear x0 x1 x2 x3 x4 x5
          go_wp2_with fail
          go_ret
          exact ⟨rfl, hfin.out⟩

end Go.Proofs.Ytgobgjnnhgcedaa
