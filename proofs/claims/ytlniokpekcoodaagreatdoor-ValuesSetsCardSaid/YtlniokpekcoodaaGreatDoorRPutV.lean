/-
  The reference's Put, walked.
-/
import Derived.Test.YtlniokpekcoodaaGreatDoorLeastM
import Derived.Deep.RegionLaw
set_option linter.unusedVariables false
set_option linter.unusedSimpArgs false
namespace Go.Proofs.YtlniokpekcoodaaGreatDoor
open Go.RowKit Go.Sort

def BoxA (w : World) (b : Nat) (c0 c1 c2 c3 c4 c5 : Value) : Prop :=
  w.cell? ⟨b, 0, none⟩ = some c0 ∧ w.cell? ⟨b, 1, none⟩ = some c1 ∧ w.cell? ⟨b, 2, none⟩ = some c2 ∧ w.cell? ⟨b, 3, none⟩ = some c3 ∧ w.cell? ⟨b, 4, none⟩ = some c4 ∧ w.cell? ⟨b, 5, none⟩ = some c5
theorem BoxA.later {w w' : World} {b : Nat} {c0 c1 c2 c3 c4 c5 : Value} (h : BoxA w b c0 c1 c2 c3 c4 c5) (hb : Below w.heap.size w w') : BoxA w' b c0 c1 c2 c3 c4 c5 :=
  ⟨cells_frame hb h.1, cells_frame hb h.2.1, cells_frame hb h.2.2.1, cells_frame hb h.2.2.2.1, cells_frame hb h.2.2.2.2.1, cells_frame hb h.2.2.2.2.2⟩
theorem BoxA.new (w : World) (c0 c1 c2 c3 c4 c5 : Value) (ty : TypeId) : BoxA (w.alloc (.cells #[c0, c1, c2, c3, c4, c5] ty)) w.heap.size c0 c1 c2 c3 c4 c5 := by
  refine ⟨?_, ?_, ?_, ?_, ?_, ?_⟩ <;> rw [World.cell?_alloc_new] <;> rfl
theorem BoxA.row {W : World} {b : Nat} {c0 c1 c2 c3 c4 c5 : Value} (h : BoxA W b c0 c1 c2 c3 c4 c5) (d0 d1 d2 d3 d4 d5 : Value) : BoxA (setRow W b 0 [d0, d1, d2, d3, d4, d5]) b d0 d1 d2 d3 d4 d5 := by
  have key : ∀ i (hi : i < 6), (setRow W b 0 [d0, d1, d2, d3, d4, d5]).cell? ⟨b, 0 + i, none⟩ = some [d0, d1, d2, d3, d4, d5][i] := setRow_cell b [d0, d1, d2, d3, d4, d5] W 0 fun i hi => by
    rw [Nat.zero_add]
    have hi6 : i < 6 := hi
    rcases (by omega : i = 0 ∨ i = 1 ∨ i = 2 ∨ i = 3 ∨ i = 4 ∨ i = 5) with rfl | rfl | rfl | rfl | rfl | rfl
    · exact ⟨_, h.1⟩
    · exact ⟨_, h.2.1⟩
    · exact ⟨_, h.2.2.1⟩
    · exact ⟨_, h.2.2.2.1⟩
    · exact ⟨_, h.2.2.2.2.1⟩
    · exact ⟨_, h.2.2.2.2.2⟩
  exact ⟨key 0 (by omega), key 1 (by omega), key 2 (by omega), key 3 (by omega), key 4 (by omega), key 5 (by omega)⟩
theorem BoxA.lt {W : World} {b : Nat} {c0 c1 c2 c3 c4 c5 : Value} (h : BoxA W b c0 c1 c2 c3 c4 c5) : b < W.heap.size := World.block_lt_of_cell? _ _ h.1
theorem BoxA.at {W : World} {b : Nat} {c0 c1 c2 c3 c4 c5 : Value} (h : BoxA W b c0 c1 c2 c3 c4 c5) : ∀ i, i < 6 → ∃ u, W.cell? ⟨b, i, none⟩ = some u := fun i hi => by
  rcases (by omega : i = 0 ∨ i = 1 ∨ i = 2 ∨ i = 3 ∨ i = 4 ∨ i = 5) with rfl | rfl | rfl | rfl | rfl | rfl
  · exact ⟨_, h.1⟩
  · exact ⟨_, h.2.1⟩
  · exact ⟨_, h.2.2.1⟩
  · exact ⟨_, h.2.2.2.1⟩
  · exact ⟨_, h.2.2.2.2.1⟩
  · exact ⟨_, h.2.2.2.2.2⟩
def mk5 (m : Prs) : T := .mk 5 false 0 ⟨#[]⟩ [] m
theorem setRow_boxA {W : World} {b : Nat} {c0 c1 c2 c3 c4 c5 : Value} (d : Value) (h : BoxA W b c0 c1 c2 c3 c4 c5) : BoxA (setRow W b 5 [d]) b c0 c1 c2 c3 c4 d := by
  have o : ∀ j, j ≠ 5 → (setRow W b 5 [d]).cell? ⟨b, j, none⟩ = W.cell? ⟨b, j, none⟩ := fun j hj => World.cell?_setCell_other W ⟨b, 5, none⟩ ⟨b, j, none⟩ d (fun e => hj (by injection e with e1 e2; exact e2.symm))
  exact ⟨(o 0 (by decide)).trans h.1, (o 1 (by decide)).trans h.2.1, (o 2 (by decide)).trans h.2.2.1, (o 3 (by decide)).trans h.2.2.2.1, (o 4 (by decide)).trans h.2.2.2.2.1, World.cell?_setCell_same W ⟨b, 5, none⟩ d h.2.2.2.2.2⟩

theorem undrewG {w w' : World} {r : Option Nat} (h : w.drew.grownBy w' r) : w.grownBy w' r := ⟨h.os, h.tape, h.output, h.size, h.block⟩

/-- What Put hands back. -/
def RPutIn (w0 : World) (R : Nat → Prop) (w : World) (t : T) (e : Ending) (w' : World) : Prop := ∃ ds, e = .returned (.agg ds) ∧ Lies w' (fun b => (R b ∧ b < w0.heap.size) ∨ w.heap.size ≤ b) t ds ∧ Below w.heap.size w w'

set_option maxRecDepth 100000 in
set_option maxHeartbeats 4000000 in
theorem rPut_any {w0 : World} {R1 R2 : Nat → Prop} {t x : T} {cs ds : Array Value} (h1 : Lies w0 R1 t cs) (h2 : Lies w0 R2 x ds) (key : ByteArray) (hkey : key.size ≤ 140737488355328) (hn1 : t.map.length ≤ 1000000) (w : World) (hw : Below w0.heap.size w0 w) :
    Calls Tryz.prog 35 #[.agg cs, .string key, .agg ds] w (RPutIn w0 (fun b => R1 b ∨ R2 b) w (mk5 (rputG key x false t.map))) := by
  have HX2 := Lib.hid h2
  obtain ⟨x0, x1, x2, x3, x4, x4l, x4c, x5, x5l, x5c, rfl⟩ := h2.six
  cases h1 with
  | mk k b n s l m la lc ma mc cl cm hk hn hs hl hm rl rm ks il im =>
    have HM : Hid (SliceP w0 R1 m ma mc cm) := ⟨hm, rm, ks, im⟩
    have hle := hm.le
    have hbig := hm.big
    have hmap : (T.mk k b n s l m).map = m := rfl
    rw [hmap] at hn1 ⊢
    obtain ⟨i0, hi, hz0, hz1, hz2⟩ := info_parts Tryz.infoP
    have HI0 := Lib.hid hi
    have HZ0 := Lib.hid hz0
    have HZ1 := Lib.hid hz1
    have HZ2 := Lib.hid hz2
    have A2 := Lib.hid ((((Below.refl w.heap.size w).alloc (Nat.le_refl _) (.cells #[.int .i64 k, .bool b, .int .i64 n, .string s, .slice la l.length lc, .slice ma m.length mc] 25)).alloc (by simp) (.cells #[.int .i64 x0, .bool x1, .int .i64 x2, .string x3, .slice x4 x4l x4c, .slice x5 x5l x5c] 25)).alloc (by simp; omega) (.cells #[.int .i64 0, .bool false, .int .i64 0, .string ⟨#[]⟩, .slice none 0 0, .slice none 0 0] 25))
    have B3 := (Below.refl (((w.alloc (.cells #[.int .i64 k, .bool b, .int .i64 n, .string s, .slice la l.length lc, .slice ma m.length mc] 25)).alloc (.cells #[.int .i64 x0, .bool x1, .int .i64 x2, .string x3, .slice x4 x4l x4c, .slice x5 x5l x5c] 25)).alloc (.cells #[.int .i64 0, .bool false, .int .i64 0, .string ⟨#[]⟩, .slice none 0 0, .slice none 0 0] 25)).heap.size (((w.alloc (.cells #[.int .i64 k, .bool b, .int .i64 n, .string s, .slice la l.length lc, .slice ma m.length mc] 25)).alloc (.cells #[.int .i64 x0, .bool x1, .int .i64 x2, .string x3, .slice x4 x4l x4c, .slice x5 x5l x5c] 25)).alloc (.cells #[.int .i64 0, .bool false, .int .i64 0, .string ⟨#[]⟩, .slice none 0 0, .slice none 0 0] 25))).alloc (Nat.le_refl _) (.cells #[.int .i64 5, .bool false, .int .i64 0, .string ⟨#[]⟩, .slice none 0 0, .slice none 0 0] 25)
    obtain ⟨q0, q1, q2, q3⟩ := three_boxes B3 (by simp)
    have Q0 := Lib.hid q0
    have Q1 := Lib.hid q1
    have Q2 := Lib.hid q2
    have Q3 := Lib.hid q3
    have e3 : (((w.alloc (.cells #[.int .i64 k, .bool b, .int .i64 n, .string s, .slice la l.length lc, .slice ma m.length mc] 25)).alloc (.cells #[.int .i64 x0, .bool x1, .int .i64 x2, .string x3, .slice x4 x4l x4c, .slice x5 x5l x5c] 25)).alloc (.cells #[.int .i64 0, .bool false, .int .i64 0, .string ⟨#[]⟩, .slice none 0 0, .slice none 0 0] 25)).heap.size = w.heap.size + 1 + 1 + 1 := by simp
    have BO := BoxA.new (((w.alloc (.cells #[.int .i64 k, .bool b, .int .i64 n, .string s, .slice la l.length lc, .slice ma m.length mc] 25)).alloc (.cells #[.int .i64 x0, .bool x1, .int .i64 x2, .string x3, .slice x4 x4l x4c, .slice x5 x5l x5c] 25)).alloc (.cells #[.int .i64 0, .bool false, .int .i64 0, .string ⟨#[]⟩, .slice none 0 0, .slice none 0 0] 25)) (.int .i64 5) (.bool false) (.int .i64 0) (.string ⟨#[]⟩) (.slice none 0 0) (.slice none 0 0) 25
    have FO := fun j => World.frozen?_alloc_new (((w.alloc (.cells #[.int .i64 k, .bool b, .int .i64 n, .string s, .slice la l.length lc, .slice ma m.length mc] 25)).alloc (.cells #[.int .i64 x0, .bool x1, .int .i64 x2, .string x3, .slice x4 x4l x4c, .slice x5 x5l x5c] 25)).alloc (.cells #[.int .i64 0, .bool false, .int .i64 0, .string ⟨#[]⟩, .slice none 0 0, .slice none 0 0] 25)) #[.int .i64 5, .bool false, .int .i64 0, .string ⟨#[]⟩, .slice none 0 0, .slice none 0 0] 25 j
    rw [e3] at BO FO
    have BO0 := Lib.hid BO
    have FO0 := Lib.hid FO
    have HSV : Hid (((((w.alloc (.cells #[.int .i64 k, .bool b, .int .i64 n, .string s, .slice la l.length lc, .slice ma m.length mc] 25)).alloc (.cells #[.int .i64 x0, .bool x1, .int .i64 x2, .string x3, .slice x4 x4l x4c, .slice x5 x5l x5c] 25)).alloc (.cells #[.int .i64 0, .bool false, .int .i64 0, .string ⟨#[]⟩, .slice none 0 0, .slice none 0 0] 25)).alloc (.cells #[.int .i64 5, .bool false, .int .i64 0, .string ⟨#[]⟩, .slice none 0 0, .slice none 0 0] 25)).heap.size = w.heap.size + 4) := by show _ = _; simp
    have AV := Lib.hid (A2.out.alloc (by simp; omega) (.cells #[.int .i64 5, .bool false, .int .i64 0, .string ⟨#[]⟩, .slice none 0 0, .slice none 0 0] 25))
    clear hk hn hs hl hm rl rm ks il im hmap hi hz0 hz1 hz2 q0 q1 q2 q3 e3 BO FO B3 h2
    obtain ⟨dd, hu, hdd⟩ := Tryz.structV
    have DD := Lib.hid hdd
    have HU := Lib.hid hu
    clear hu hdd
    go_enter Tryz.func35, Tryz.ntmps35
    go_wp2_with fail
    generalize hv : (((w.alloc (.cells #[.int .i64 k, .bool b, .int .i64 n, .string s, .slice la l.length lc, .slice ma m.length mc] 25)).alloc (.cells #[.int .i64 x0, .bool x1, .int .i64 x2, .string x3, .slice x4 x4l x4c, .slice x5 x5l x5c] 25)).alloc (.cells #[.int .i64 0, .bool false, .int .i64 0, .string ⟨#[]⟩, .slice none 0 0, .slice none 0 0] 25)).alloc (.cells #[.int .i64 5, .bool false, .int .i64 0, .string ⟨#[]⟩, .slice none 0 0, .slice none 0 0] 25) = v at *
    clear hv
    have hvs := HSV.out
    have c5' : v.cell? ⟨w.heap.size, 5, none⟩ = some (.slice ma m.length mc) := Q0.out 5
    go_loopw [8, 9] (fun v8 v9 wr => ∃ (j : Nat) (laid : Bool) (al : Option Addr) (cl' : Nat) (K : List Q), j ≤ m.length ∧ v9 = .int .i64 j ∧ v8 = .bool laid ∧ Hid (OwnW (fun b => (R1 b ∨ R2 b) ∧ b < w0.heap.size) (w.heap.size + 3) wr (.slice al K.length cl') K) ∧ Hid (K.map strip ++ rputG key x laid (m.drop j) = rputG key x false m) ∧ K.length ≤ 2 * j ∧ Hid (BoxA wr (w.heap.size + 1 + 1 + 1) (.int .i64 5) (.bool false) (.int .i64 0) (.string ⟨#[]⟩) (.slice none 0 0) (.slice al K.length cl')) ∧ Hid (∀ j, wr.frozen? ⟨w.heap.size + 1 + 1 + 1, j, none⟩ = false) ∧ Hid (∀ b, b < v.heap.size → b ≠ w.heap.size + 3 → wr.heap[b]? = v.heap[b]?) ∧ v.heap.size ≤ wr.heap.size ∧ Hid (Below w.heap.size w wr)) (fun _ v9 _ => m.length - (intOf v9).toNat)
    case atStart => exact ⟨0, false, none, 0, [], by omega, rfl, rfl, OwnW.nil _ _ _, by show _ = _; simp, by simp, BO0, FO0, fun _ _ _ => rfl, Nat.le_refl _, AV⟩
    case round =>
      obtain ⟨j, laid, al, cl', K, hj, rfl, rfl, HK, HE, hKl, BO, FZ, KP, SZ, HB⟩ := hrel
      by_cases hjl : j < m.length
      · obtain ⟨bl, ol, hma, _⟩ := HM.out.hdr.some (by omega)
        subst hma
        have HN := Lib.hid (rputG_next key x laid m j hjl)
        have hkp := KP.out
        have xk5 : wr.cell? ⟨w.heap.size, 5, none⟩ = some (.slice (some ⟨bl, ol, none⟩) m.length mc) := (World.cell?_of_block (hkp w.heap.size (by omega) (by omega))).trans c5'
        have hWw := bstep hw HB.out hw.size
        obtain ⟨bl2, ol2, c0, c1, c2, c3, c4, c4l, c4c, c5, c5l, c5c, e2, hc, r0, r1, r2, r3, r4, r5, r6⟩ := openM hWw HM.out.hdr HM.out.rows hjl (HM.out.each j hjl)
        obtain ⟨rfl, rfl⟩ : bl = bl2 ∧ ol = ol2 := by simpa using e2
        clear hc e2 hkp
        cases hl : ltS m[j].1 key with
        | true =>
          have g1 : Op.bytesLess m[j].1.toList key.toList = true := hl
          have HEEQ : Hid (m[j].1 = key → K.map strip ++ rputG key x laid (m.drop (j + 1)) = rputG key x false m) := fun he => absurd he (ltS_nee hl)
          have HENE : Hid (¬ m[j].1 = key → ∀ ds : Array Value, (K ++ [(m[j].1, m[j].2, ds)]).map strip ++ rputG key x laid (m.drop (j + 1)) = rputG key x false m) := fun he ds => by
            rw [← HE.out, HN.out, if_neg (by simp [hl]), if_neg he, hl, List.map_append, List.append_assoc]
            simp [strip]
          clear hl
          go_upto_region 9 with fail
          clear r0 r1 r2 r3 r4 r5 r6 xk5 hWw
          have hkp := KP.out
          have hsz := SZ
          have xk5 : wr.cell? ⟨w.heap.size, 5, none⟩ = some (.slice (some ⟨bl, ol, none⟩) m.length mc) := (World.cell?_of_block (hkp w.heap.size (by omega) (by omega))).trans c5'
          have hWw := bstep hw HB.out hw.size
          obtain ⟨bl2, ol2, c0, c1, c2, c3, c4, c4l, c4c, c5, c5l, c5c, e2, hc, r0, r1, r2, r3, r4, r5, r6⟩ := openM hWw HM.out.hdr HM.out.rows hjl (HM.out.each j hjl)
          obtain ⟨rfl, rfl⟩ : bl = bl2 ∧ ol = ol2 := by simpa using e2
          have hLx := HM.out.each j hjl
          rw [hc] at hLx
          have HLX := Lib.hid (hLx.bound.later hWw)
          clear hc hLx hkp e2
          by_cases he : m[j].1 = key
          · have f1 : (m[j].1.toList == key.toList) = true := by rw [he]; simp
            have HE2 : Hid ((K).map strip ++ rputG key x laid (m.drop (j + 1)) = rputG key x false m) := HEEQ.out he
            clear he hWw
            go_wp2_with fail
            go_roundw
            case rel => exact ⟨j + 1, laid, al, cl', K, by omega, by go_num, rfl, HK, HE2, by omega, BO, FZ, KP, SZ, HB⟩
            case measure => simp [intOf]; omega
          · have f1 := str_ne he
            have HE2 : Hid ((K ++ [(m[j].1, m[j].2, (#[.int .i64 c0, .bool c1, .int .i64 c2, .string c3, .slice c4 c4l c4c, .slice c5 c5l c5c] : Array Value))]).map strip ++ rputG key x laid (m.drop (j + 1)) = rputG key x false m) := HENE.out he _
            clear he
            obtain ⟨xo0, xo1, xo2, xo3, xo4, xo5⟩ := BO.out
            have hko := HM.out.keys j hjl
            go_upto_region 10 with fail
            have hZ := Lib.hid ((Below.refl wr.heap.size wr).alloc (Nat.le_refl _) (.cells #[.string m[j].1, .int .i64 c0, .bool c1, .int .i64 c2, .string c3, .slice c4 c4l c4c, .slice c5 c5l c5c] 51))
            have HKa := Lib.hid (HK.out.later hZ.out)
            have hex := World.block_lt_of_cell? _ _ xo5
            have HKd := Lib.hid (HKa.out.later (Below.refl _ _).drew)
            have hexK : (Value.slice al K.length cl').ownBlock ≠ some (w.heap.size + 3) := fun e => by have := (HK.out.block e).1; omega
            go_region_law (
              refine step_append_own rfl (.tmp 47) (.tmp 53) 23 rfl (w.heap.size + 3 + 1) 51 i0 _ 7 104 Tryz.underlying23 HI0.out HZ0.out HZ1.out HZ2.out (by rfl) (by decide) (.slice al K.length cl') K.length _ rfl (by first | exact HKd.out.own | exact HKa.out.own) ⟨wr.heap.size, 0, none⟩ 1 1 [.string m[j].1, .int .i64 c0, .bool c1, .int .i64 c2, .string c3, .slice c4 c4l c4c, .slice c5 c5l c5c] rfl rfl (fun i u hu => lit_cells wr _ _ i u hu) (fun u hu => by
                simp at hu
                rcases hu with rfl | rfl | rfl | rfl | rfl | rfl | rfl <;> rfl) (by unfold maxLen; omega) (by omega) (by simp; omega) ?_
              intro v5 w5 own5 hg5 hob5
              obtain ⟨a5, e5, rfl⟩ := row_form own5
              have OWN5 := Lib.hid own5
              have HOB5 := Lib.hid hob5
              have hb5 : w5.heap[w.heap.size + 3]? = wr.heap[w.heap.size + 3]? := (hg5.block (w.heap.size + 3) (by simp; omega) (fun e => hexK e.symm)).trans (Below.heap_alloc _ _ _ hex)
              have xs5 : w5.cell? ⟨w.heap.size + 1 + 1 + 1, 5, none⟩ = some (.slice al K.length cl') := (World.cell?_of_block hb5).trans xo5
              have xf5 : ∀ j, w5.frozen? ⟨w.heap.size + 1 + 1 + 1, j, none⟩ = false := fun j => (World.frozen?_of_block hb5).trans (FZ.out j)
              clear own5 hob5)
            all_goals
              have hlen : (K ++ [(m[j].1, m[j].2, (#[.int .i64 c0, .bool c1, .int .i64 c2, .string c3, .slice c4 c4l c4c, .slice c5 c5l c5c] : Array Value))]).length = K.length + 1 := by rw [List.length_append]; rfl
              have HLN := Lib.hid hlen
              have hg5 := undrewG hg5
              have hs5 := hg5.size
              have hsa : wr.heap.size + 1 ≤ w5.heap.size := by simpa using hs5
              have hxo : ∀ b, R1 b ∧ b < w0.heap.size → (R1 b ∨ R2 b) ∧ b < w0.heap.size := fun b hb => ⟨.inl hb.1, hb.2⟩
              have hobK : ∀ g, (Value.slice al K.length cl').ownBlock = some g → w.heap.size + 3 < g := fun g hg => (HK.out.block hg).1
              have HLa : Lies (wr.alloc (.cells #[.string m[j].1, .int .i64 c0, .bool c1, .int .i64 c2, .string c3, .slice c4 c4l c4c, .slice c5 c5l c5c] 51)) (fun b => ((R1 b ∨ R2 b) ∧ b < w0.heap.size) ∧ b < (wr.alloc (.cells #[.string m[j].1, .int .i64 c0, .bool c1, .int .i64 c2, .string c3, .slice c4 c4l c4c, .slice c5 c5l c5c] 51)).heap.size ∧ (Value.slice al K.length cl').ownBlock ≠ some b ∧ b ≠ w.heap.size + 3) m[j].2 #[.int .i64 c0, .bool c1, .int .i64 c2, .string c3, .slice c4 c4l c4c, .slice c5 c5l c5c] :=
                (HLX.out.later hZ.out).weaken fun b hb => by
                  have h0 := hw.size
                  have h1 := hb.2
                  exact ⟨⟨.inl hb.1, h1⟩, by simp; omega, fun e => by have := hobK _ e; omega, by omega⟩
              have HK5 := HKa.out.one HLa hko (OWN5.out) hg5 (HOB5.out.imp id (fun h => h.trans (by simp)))
              have HKn : Hid (OwnW (fun b => (R1 b ∨ R2 b) ∧ b < w0.heap.size) (w.heap.size + 3) (setRow w5 (w.heap.size + 3) 5 [.slice a5 (K.length + 1) e5]) (.slice a5 (K ++ [(m[j].1, m[j].2, (#[.int .i64 c0, .bool c1, .int .i64 c2, .string c3, .slice c4 c4l c4c, .slice c5 c5l c5c] : Array Value))]).length e5) (K ++ [(m[j].1, m[j].2, (#[.int .i64 c0, .bool c1, .int .i64 c2, .string c3, .slice c4 c4l c4c, .slice c5 c5l c5c] : Array Value))])) := by
                show OwnW _ _ _ _ _
                rw [hlen]
                exact HK5.keep (fun b _ hne => setRow_heap _ _ _ _ _ hne) (by rw [setRow_size]; exact Nat.le_refl _)
              have B5 : BoxA w5 (w.heap.size + 3) (.int .i64 5) (.bool false) (.int .i64 0) (.string ⟨#[]⟩) (.slice none 0 0) (.slice al K.length cl') := ⟨(World.cell?_of_block hb5).trans xo0, (World.cell?_of_block hb5).trans xo1, (World.cell?_of_block hb5).trans xo2, (World.cell?_of_block hb5).trans xo3, (World.cell?_of_block hb5).trans xo4, xs5⟩
              have BOn : Hid (BoxA (setRow w5 (w.heap.size + 3) 5 [.slice a5 (K.length + 1) e5]) (w.heap.size + 1 + 1 + 1) (.int .i64 5) (.bool false) (.int .i64 0) (.string ⟨#[]⟩) (.slice none 0 0) (.slice a5 (K ++ [(m[j].1, m[j].2, (#[.int .i64 c0, .bool c1, .int .i64 c2, .string c3, .slice c4 c4l c4c, .slice c5 c5l c5c] : Array Value))]).length e5)) := by
                show BoxA _ _ _ _ _ _ _ _
                rw [hlen]
                exact setRow_boxA (.slice a5 (K.length + 1) e5) B5
              have FZn : Hid (∀ j, (setRow w5 (w.heap.size + 3) 5 [.slice a5 (K.length + 1) e5]).frozen? ⟨w.heap.size + 1 + 1 + 1, j, none⟩ = false) := fun j => (setRow_frozen _ _ _ _ _).trans (xf5 j)
              have KPn : Hid (∀ b, b < v.heap.size → b ≠ w.heap.size + 3 → (setRow w5 (w.heap.size + 3) 5 [.slice a5 (K.length + 1) e5]).heap[b]? = v.heap[b]?) := fun b hb hne =>
                (setRow_heap _ _ _ _ _ hne).trans ((hg5.block b (by simp; omega) (fun e => by have := hobK _ e.symm; omega)).trans ((Below.heap_alloc _ _ _ (by omega)).trans (KP.out b hb hne)))
              have SZn : v.heap.size ≤ (setRow w5 (w.heap.size + 3) 5 [.slice a5 (K.length + 1) e5]).heap.size := by rw [setRow_size]; omega
              have HBn : Hid (Below w.heap.size w (setRow w5 (w.heap.size + 3) 5 [.slice a5 (K.length + 1) e5])) := setRow_below _ (by omega) _ _ _ ((HB.out.alloc (by omega) (.cells #[.string m[j].1, .int .i64 c0, .bool c1, .int .i64 c2, .string c3, .slice c4 c4l c4c, .slice c5 c5l c5c] 51)).grown hg5 (by simp; omega) (fun g hg => by have := hobK g hg; omega))
              clear hs5 hsa hxo HLa HK5 B5 hb5 hg5 xs5 xf5 r0 r1 r2 r3 r4 r5 r6 xk5 hWw
              go_wp2_with fail
              go_roundw
              case rel => first
                | exact ⟨j + 1, laid, a5, e5, K ++ [(m[j].1, m[j].2, (#[.int .i64 c0, .bool c1, .int .i64 c2, .string c3, .slice c4 c4l c4c, .slice c5 c5l c5c] : Array Value))], by omega, by go_num, rfl, HKn, HE2, by rw [HLN.out]; omega, BOn, FZn, KPn, SZn, HBn⟩
                | exact ⟨j + 1, laid, a5, e5, K ++ [(m[j].1, m[j].2, (#[.int .i64 c0, .bool c1, .int .i64 c2, .string c3, .slice c4 c4l c4c, .slice c5 c5l c5c] : Array Value))], by omega, by go_num, rfl, HKn.out.later (Below.refl _ _).drew, HE2, by rw [HLN.out]; omega, BOn, FZn, KPn, SZn, HBn.out.drew⟩
              case measure => simp [intOf]; omega
        | false =>
          have g1 : Op.bytesLess m[j].1.toList key.toList = false := hl
          have HLT := Lib.hid hl
          cases laid with
          | true =>
            have HEEQ : Hid (m[j].1 = key → K.map strip ++ rputG key x true (m.drop (j + 1)) = rputG key x false m) := fun he => by
              rw [← HE.out, HN.out, if_neg (by simp), if_pos he]
              rfl
            have HENE : Hid (¬ m[j].1 = key → ∀ ds : Array Value, (K ++ [(m[j].1, m[j].2, ds)]).map strip ++ rputG key x true (m.drop (j + 1)) = rputG key x false m) := fun he ds => by
              rw [← HE.out, HN.out, if_neg (by simp), if_neg he, Bool.true_or, List.map_append, List.append_assoc]
              simp [strip]
            clear hl
            go_upto_region 9 with fail
            clear r0 r1 r2 r3 r4 r5 r6 xk5 hWw
            have hkp := KP.out
            have hsz := SZ
            have xk5 : wr.cell? ⟨w.heap.size, 5, none⟩ = some (.slice (some ⟨bl, ol, none⟩) m.length mc) := (World.cell?_of_block (hkp w.heap.size (by omega) (by omega))).trans c5'
            have hWw := bstep hw HB.out hw.size
            obtain ⟨bl2, ol2, c0, c1, c2, c3, c4, c4l, c4c, c5, c5l, c5c, e2, hc, r0, r1, r2, r3, r4, r5, r6⟩ := openM hWw HM.out.hdr HM.out.rows hjl (HM.out.each j hjl)
            obtain ⟨rfl, rfl⟩ : bl = bl2 ∧ ol = ol2 := by simpa using e2
            have hLx := HM.out.each j hjl
            rw [hc] at hLx
            have HLX := Lib.hid (hLx.bound.later hWw)
            clear hc hLx hkp e2
            by_cases he : m[j].1 = key
            · have f1 : (m[j].1.toList == key.toList) = true := by rw [he]; simp
              have HE2 : Hid ((K).map strip ++ rputG key x true (m.drop (j + 1)) = rputG key x false m) := HEEQ.out he
              clear he hWw
              go_wp2_with fail
              go_roundw
              case rel => exact ⟨j + 1, true, al, cl', K, by omega, by go_num, rfl, HK, HE2, by omega, BO, FZ, KP, SZ, HB⟩
              case measure => simp [intOf]; omega
            · have f1 := str_ne he
              have HE2 : Hid ((K ++ [(m[j].1, m[j].2, (#[.int .i64 c0, .bool c1, .int .i64 c2, .string c3, .slice c4 c4l c4c, .slice c5 c5l c5c] : Array Value))]).map strip ++ rputG key x true (m.drop (j + 1)) = rputG key x false m) := HENE.out he _
              clear he
              obtain ⟨xo0, xo1, xo2, xo3, xo4, xo5⟩ := BO.out
              have hko := HM.out.keys j hjl
              go_upto_region 10 with fail
              have hZ := Lib.hid ((Below.refl wr.heap.size wr).alloc (Nat.le_refl _) (.cells #[.string m[j].1, .int .i64 c0, .bool c1, .int .i64 c2, .string c3, .slice c4 c4l c4c, .slice c5 c5l c5c] 51))
              have HKa := Lib.hid (HK.out.later hZ.out)
              have hex := World.block_lt_of_cell? _ _ xo5
              have HKd := Lib.hid (HKa.out.later (Below.refl _ _).drew)
              have hexK : (Value.slice al K.length cl').ownBlock ≠ some (w.heap.size + 3) := fun e => by have := (HK.out.block e).1; omega
              go_region_law (
                refine step_append_own rfl (.tmp 47) (.tmp 53) 23 rfl (w.heap.size + 3 + 1) 51 i0 _ 7 104 Tryz.underlying23 HI0.out HZ0.out HZ1.out HZ2.out (by rfl) (by decide) (.slice al K.length cl') K.length _ rfl (by first | exact HKd.out.own | exact HKa.out.own) ⟨wr.heap.size, 0, none⟩ 1 1 [.string m[j].1, .int .i64 c0, .bool c1, .int .i64 c2, .string c3, .slice c4 c4l c4c, .slice c5 c5l c5c] rfl rfl (fun i u hu => lit_cells wr _ _ i u hu) (fun u hu => by
                  simp at hu
                  rcases hu with rfl | rfl | rfl | rfl | rfl | rfl | rfl <;> rfl) (by unfold maxLen; omega) (by omega) (by simp; omega) ?_
                intro v5 w5 own5 hg5 hob5
                obtain ⟨a5, e5, rfl⟩ := row_form own5
                have OWN5 := Lib.hid own5
                have HOB5 := Lib.hid hob5
                have hb5 : w5.heap[w.heap.size + 3]? = wr.heap[w.heap.size + 3]? := (hg5.block (w.heap.size + 3) (by simp; omega) (fun e => hexK e.symm)).trans (Below.heap_alloc _ _ _ hex)
                have xs5 : w5.cell? ⟨w.heap.size + 1 + 1 + 1, 5, none⟩ = some (.slice al K.length cl') := (World.cell?_of_block hb5).trans xo5
                have xf5 : ∀ j, w5.frozen? ⟨w.heap.size + 1 + 1 + 1, j, none⟩ = false := fun j => (World.frozen?_of_block hb5).trans (FZ.out j)
                clear own5 hob5)
              all_goals
                have hlen : (K ++ [(m[j].1, m[j].2, (#[.int .i64 c0, .bool c1, .int .i64 c2, .string c3, .slice c4 c4l c4c, .slice c5 c5l c5c] : Array Value))]).length = K.length + 1 := by rw [List.length_append]; rfl
                have HLN := Lib.hid hlen
                have hg5 := undrewG hg5
                have hs5 := hg5.size
                have hsa : wr.heap.size + 1 ≤ w5.heap.size := by simpa using hs5
                have hxo : ∀ b, R1 b ∧ b < w0.heap.size → (R1 b ∨ R2 b) ∧ b < w0.heap.size := fun b hb => ⟨.inl hb.1, hb.2⟩
                have hobK : ∀ g, (Value.slice al K.length cl').ownBlock = some g → w.heap.size + 3 < g := fun g hg => (HK.out.block hg).1
                have HLa : Lies (wr.alloc (.cells #[.string m[j].1, .int .i64 c0, .bool c1, .int .i64 c2, .string c3, .slice c4 c4l c4c, .slice c5 c5l c5c] 51)) (fun b => ((R1 b ∨ R2 b) ∧ b < w0.heap.size) ∧ b < (wr.alloc (.cells #[.string m[j].1, .int .i64 c0, .bool c1, .int .i64 c2, .string c3, .slice c4 c4l c4c, .slice c5 c5l c5c] 51)).heap.size ∧ (Value.slice al K.length cl').ownBlock ≠ some b ∧ b ≠ w.heap.size + 3) m[j].2 #[.int .i64 c0, .bool c1, .int .i64 c2, .string c3, .slice c4 c4l c4c, .slice c5 c5l c5c] :=
                  (HLX.out.later hZ.out).weaken fun b hb => by
                    have h0 := hw.size
                    have h1 := hb.2
                    exact ⟨⟨.inl hb.1, h1⟩, by simp; omega, fun e => by have := hobK _ e; omega, by omega⟩
                have HK5 := HKa.out.one HLa hko (OWN5.out) hg5 (HOB5.out.imp id (fun h => h.trans (by simp)))
                have HKn : Hid (OwnW (fun b => (R1 b ∨ R2 b) ∧ b < w0.heap.size) (w.heap.size + 3) (setRow w5 (w.heap.size + 3) 5 [.slice a5 (K.length + 1) e5]) (.slice a5 (K ++ [(m[j].1, m[j].2, (#[.int .i64 c0, .bool c1, .int .i64 c2, .string c3, .slice c4 c4l c4c, .slice c5 c5l c5c] : Array Value))]).length e5) (K ++ [(m[j].1, m[j].2, (#[.int .i64 c0, .bool c1, .int .i64 c2, .string c3, .slice c4 c4l c4c, .slice c5 c5l c5c] : Array Value))])) := by
                  show OwnW _ _ _ _ _
                  rw [hlen]
                  exact HK5.keep (fun b _ hne => setRow_heap _ _ _ _ _ hne) (by rw [setRow_size]; exact Nat.le_refl _)
                have B5 : BoxA w5 (w.heap.size + 3) (.int .i64 5) (.bool false) (.int .i64 0) (.string ⟨#[]⟩) (.slice none 0 0) (.slice al K.length cl') := ⟨(World.cell?_of_block hb5).trans xo0, (World.cell?_of_block hb5).trans xo1, (World.cell?_of_block hb5).trans xo2, (World.cell?_of_block hb5).trans xo3, (World.cell?_of_block hb5).trans xo4, xs5⟩
                have BOn : Hid (BoxA (setRow w5 (w.heap.size + 3) 5 [.slice a5 (K.length + 1) e5]) (w.heap.size + 1 + 1 + 1) (.int .i64 5) (.bool false) (.int .i64 0) (.string ⟨#[]⟩) (.slice none 0 0) (.slice a5 (K ++ [(m[j].1, m[j].2, (#[.int .i64 c0, .bool c1, .int .i64 c2, .string c3, .slice c4 c4l c4c, .slice c5 c5l c5c] : Array Value))]).length e5)) := by
                  show BoxA _ _ _ _ _ _ _ _
                  rw [hlen]
                  exact setRow_boxA (.slice a5 (K.length + 1) e5) B5
                have FZn : Hid (∀ j, (setRow w5 (w.heap.size + 3) 5 [.slice a5 (K.length + 1) e5]).frozen? ⟨w.heap.size + 1 + 1 + 1, j, none⟩ = false) := fun j => (setRow_frozen _ _ _ _ _).trans (xf5 j)
                have KPn : Hid (∀ b, b < v.heap.size → b ≠ w.heap.size + 3 → (setRow w5 (w.heap.size + 3) 5 [.slice a5 (K.length + 1) e5]).heap[b]? = v.heap[b]?) := fun b hb hne =>
                  (setRow_heap _ _ _ _ _ hne).trans ((hg5.block b (by simp; omega) (fun e => by have := hobK _ e.symm; omega)).trans ((Below.heap_alloc _ _ _ (by omega)).trans (KP.out b hb hne)))
                have SZn : v.heap.size ≤ (setRow w5 (w.heap.size + 3) 5 [.slice a5 (K.length + 1) e5]).heap.size := by rw [setRow_size]; omega
                have HBn : Hid (Below w.heap.size w (setRow w5 (w.heap.size + 3) 5 [.slice a5 (K.length + 1) e5])) := setRow_below _ (by omega) _ _ _ ((HB.out.alloc (by omega) (.cells #[.string m[j].1, .int .i64 c0, .bool c1, .int .i64 c2, .string c3, .slice c4 c4l c4c, .slice c5 c5l c5c] 51)).grown hg5 (by simp; omega) (fun g hg => by have := hobK g hg; omega))
                clear hs5 hsa hxo HLa HK5 B5 hb5 hg5 xs5 xf5 r0 r1 r2 r3 r4 r5 r6 xk5 hWw
                go_wp2_with fail
                go_roundw
                case rel => first
                  | exact ⟨j + 1, true, a5, e5, K ++ [(m[j].1, m[j].2, (#[.int .i64 c0, .bool c1, .int .i64 c2, .string c3, .slice c4 c4l c4c, .slice c5 c5l c5c] : Array Value))], by omega, by go_num, rfl, HKn, HE2, by rw [HLN.out]; omega, BOn, FZn, KPn, SZn, HBn⟩
                  | exact ⟨j + 1, true, a5, e5, K ++ [(m[j].1, m[j].2, (#[.int .i64 c0, .bool c1, .int .i64 c2, .string c3, .slice c4 c4l c4c, .slice c5 c5l c5c] : Array Value))], by omega, by go_num, rfl, HKn.out.later (Below.refl _ _).drew, HE2, by rw [HLN.out]; omega, BOn, FZn, KPn, SZn, HBn.out.drew⟩
                case measure => simp [intOf]; omega
          | false =>
            have hkp := KP.out
            obtain ⟨xo0, xo1, xo2, xo3, xo4, xo5⟩ := BO.out
            have hfz := FZ.out
            have hsz := SZ
            have y : ∀ i, wr.cell? ⟨w.heap.size + 1, i, none⟩ = _ := fun i => (World.cell?_of_block (hkp (w.heap.size + 1) (by omega) (by omega))).trans (Q1.out i)
            have xx0 : wr.cell? ⟨w.heap.size + 1, 0, none⟩ = some (.int .i64 x0) := y 0
            have xx1 : wr.cell? ⟨w.heap.size + 1, 1, none⟩ = some (.bool x1) := y 1
            have xx2 : wr.cell? ⟨w.heap.size + 1, 2, none⟩ = some (.int .i64 x2) := y 2
            have xx3 : wr.cell? ⟨w.heap.size + 1, 3, none⟩ = some (.string x3) := y 3
            have xx4 : wr.cell? ⟨w.heap.size + 1, 4, none⟩ = some (.slice x4 x4l x4c) := y 4
            have xx5 : wr.cell? ⟨w.heap.size + 1, 5, none⟩ = some (.slice x5 x5l x5c) := y 5
            have hZ := Lib.hid ((Below.refl wr.heap.size wr).alloc (Nat.le_refl _) (.cells #[.string key, .int .i64 x0, .bool x1, .int .i64 x2, .string x3, .slice x4 x4l x4c, .slice x5 x5l x5c] 51))
            have HKa := Lib.hid (HK.out.later hZ.out)
            have hex := World.block_lt_of_cell? _ _ xo5
            have hobK : ∀ g, (Value.slice al K.length cl').ownBlock = some g → w.heap.size + 3 < g := fun g hg => (HK.out.block hg).1
            have HOBK := Lib.hid hobK
            clear y hkp hobK hl
            go_upto_region 8 with (at_builtin; refine wpList_append_own_at _ rfl (.tmp 31) (.tmp 35) 23 rfl (w.heap.size + 3 + 1) 51 i0 _ 7 104 Tryz.underlying23 HI0.out HZ0.out HZ1.out HZ2.out (by rfl) (by decide) (.slice al K.length cl') K.length _ rfl HKa.out.own ⟨wr.heap.size, 0, none⟩ 1 1 [.string key, .int .i64 x0, .bool x1, .int .i64 x2, .string x3, .slice x4 x4l x4c, .slice x5 x5l x5c] rfl rfl (fun i u hu => lit_cells wr _ _ i u hu) (fun u hu => by
              simp at hu
              rcases hu with rfl | rfl | rfl | rfl | rfl | rfl | rfl <;> rfl) (by unfold maxLen; omega) (by omega) (by simp; omega) ?_; intro v5 w5 own5 hg5 _ hob5; obtain ⟨a5, e5, rfl⟩ := row_form own5; have OWN5 := Lib.hid own5; have HOB5 := Lib.hid hob5; have hb5 : w5.heap[w.heap.size + 3]? = wr.heap[w.heap.size + 3]? := (hg5.block (w.heap.size + 3) (by simp; omega) (fun e => by have := HOBK.out _ e.symm; omega)).trans (Below.heap_alloc _ _ _ hex); have xs5 : w5.cell? ⟨w.heap.size + 1 + 1 + 1, 5, none⟩ = some (.slice al K.length cl') := (World.cell?_of_block hb5).trans xo5; have xf5 : ∀ j, w5.frozen? ⟨w.heap.size + 1 + 1 + 1, j, none⟩ = false := fun j => (World.frozen?_of_block hb5).trans (FZ.out j); clear own5 hob5)
            have hobK := HOBK.out
            have hlen : (K ++ [(key, x, (#[.int .i64 x0, .bool x1, .int .i64 x2, .string x3, .slice x4 x4l x4c, .slice x5 x5l x5c] : Array Value))]).length = K.length + 1 := by rw [List.length_append]; rfl
            have hs5 := hg5.size
            have hsa : wr.heap.size + 1 ≤ w5.heap.size := by simpa using hs5
            have HLa : Lies (wr.alloc (.cells #[.string key, .int .i64 x0, .bool x1, .int .i64 x2, .string x3, .slice x4 x4l x4c, .slice x5 x5l x5c] 51)) (fun b => ((R1 b ∨ R2 b) ∧ b < w0.heap.size) ∧ b < (wr.alloc (.cells #[.string key, .int .i64 x0, .bool x1, .int .i64 x2, .string x3, .slice x4 x4l x4c, .slice x5 x5l x5c] 51)).heap.size ∧ (Value.slice al K.length cl').ownBlock ≠ some b ∧ b ≠ w.heap.size + 3) x #[.int .i64 x0, .bool x1, .int .i64 x2, .string x3, .slice x4 x4l x4c, .slice x5 x5l x5c] :=
              ((HX2.out.bound.later hWw).later hZ.out).weaken fun b hb => by
                have h0 := hw.size
                have h1 := hb.2
                exact ⟨⟨.inr hb.1, h1⟩, by simp; omega, fun e => by have := hobK _ e; omega, by omega⟩
            have HK5 := HKa.out.one HLa hkey (OWN5.out) hg5 (HOB5.out.imp id (fun h => h.trans (by simp)))
            have HK6 : Hid (OwnW (fun b => (R1 b ∨ R2 b) ∧ b < w0.heap.size) (w.heap.size + 3) (w5.setCell ⟨w.heap.size + 1 + 1 + 1, 5, none⟩ (.slice a5 (K.length + 1) e5)) (.slice a5 (K.length + 1) e5) (K ++ [(key, x, (#[.int .i64 x0, .bool x1, .int .i64 x2, .string x3, .slice x4 x4l x4c, .slice x5 x5l x5c] : Array Value))])) :=
              HK5.keep (fun b _ hne => setRow_heap (w.heap.size + 3) [.slice a5 (K.length + 1) e5] w5 5 b hne) (by have := setRow_size (w.heap.size + 3) [.slice a5 (K.length + 1) e5] w5 5; exact Nat.le_of_eq this.symm)
            have B5 : BoxA w5 (w.heap.size + 3) (.int .i64 5) (.bool false) (.int .i64 0) (.string ⟨#[]⟩) (.slice none 0 0) (.slice al K.length cl') := ⟨(World.cell?_of_block hb5).trans xo0, (World.cell?_of_block hb5).trans xo1, (World.cell?_of_block hb5).trans xo2, (World.cell?_of_block hb5).trans xo3, (World.cell?_of_block hb5).trans xo4, xs5⟩
            have BO6 : Hid (BoxA (w5.setCell ⟨w.heap.size + 1 + 1 + 1, 5, none⟩ (.slice a5 (K.length + 1) e5)) (w.heap.size + 1 + 1 + 1) (.int .i64 5) (.bool false) (.int .i64 0) (.string ⟨#[]⟩) (.slice none 0 0) (.slice a5 (K.length + 1) e5)) := setRow_boxA (.slice a5 (K.length + 1) e5) B5
            have FZ6 : Hid (∀ j, (w5.setCell ⟨w.heap.size + 1 + 1 + 1, 5, none⟩ (.slice a5 (K.length + 1) e5)).frozen? ⟨w.heap.size + 1 + 1 + 1, j, none⟩ = false) := fun j => (setRow_frozen (w.heap.size + 3) [.slice a5 (K.length + 1) e5] w5 5 _).trans (xf5 j)
            have KP6 : Hid (∀ b, b < v.heap.size → b ≠ w.heap.size + 3 → (w5.setCell ⟨w.heap.size + 1 + 1 + 1, 5, none⟩ (.slice a5 (K.length + 1) e5)).heap[b]? = v.heap[b]?) := fun b hb hne =>
              (setRow_heap (w.heap.size + 3) [.slice a5 (K.length + 1) e5] w5 5 b hne).trans ((hg5.block b (by simp; omega) (fun e => by have := hobK _ e.symm; omega)).trans ((Below.heap_alloc _ _ _ (by omega)).trans (KP.out b hb hne)))
            have SZ6 : v.heap.size ≤ (w5.setCell ⟨w.heap.size + 1 + 1 + 1, 5, none⟩ (.slice a5 (K.length + 1) e5)).heap.size := by have := setRow_size (w.heap.size + 3) [.slice a5 (K.length + 1) e5] w5 5; exact Nat.le_trans (by omega : v.heap.size ≤ w5.heap.size) (Nat.le_of_eq this.symm)
            have HB6 : Hid (Below w.heap.size w (w5.setCell ⟨w.heap.size + 1 + 1 + 1, 5, none⟩ (.slice a5 (K.length + 1) e5))) := setRow_below (w.heap.size + 3) (by omega) [.slice a5 (K.length + 1) e5] w5 5 ((HB.out.alloc (by omega) (.cells #[.string key, .int .i64 x0, .bool x1, .int .i64 x2, .string x3, .slice x4 x4l x4c, .slice x5 x5l x5c] 51)).grown hg5 (by simp; omega) (fun g hg => by have := hobK g hg; omega))
            obtain ⟨K6, eK6⟩ : ∃ K6, K6 = K ++ [(key, x, (#[.int .i64 x0, .bool x1, .int .i64 x2, .string x3, .slice x4 x4l x4c, .slice x5 x5l x5c] : Array Value))] := ⟨_, rfl⟩
            have hK6 : K6.length = K.length + 1 := by rw [eK6, hlen]
            have hKl6 : K6.length ≤ 2 * j + 1 := by omega
            have HEEQ6 : Hid (m[j].1 = key → K6.map strip ++ rputG key x true (m.drop (j + 1)) = rputG key x false m) := fun he => by
              rw [← HE.out, HN.out, if_pos ⟨HLT.out, rfl⟩, if_pos he, HLT.out, eK6, List.map_append, List.append_assoc]
              rfl
            have HENE6 : Hid (¬ m[j].1 = key → ∀ ds : Array Value, (K6 ++ [(m[j].1, m[j].2, ds)]).map strip ++ rputG key x true (m.drop (j + 1)) = rputG key x false m) := fun he ds => by
              rw [← HE.out, HN.out, if_pos ⟨HLT.out, rfl⟩, if_neg he, HLT.out, eK6, List.map_append, List.map_append, List.append_assoc, List.append_assoc]
              rfl
            rw [← eK6, ← hK6] at HK6
            rw [← hK6] at BO6
            rw [← hK6] at FZ6 KP6 SZ6 HB6 ⊢
            clear hs5 hsa HLa HK5 B5 hb5 hg5 xs5 xf5 xo0 xo1 xo2 xo3 xo4 xo5 hfz xx0 xx1 xx2 xx3 xx4 xx5 hlen eK6 hK6 HKa hZ OWN5 HOB5
            generalize hgw : w5.setCell ⟨w.heap.size + 1 + 1 + 1, 5, none⟩ (.slice a5 K6.length e5) = w6 at *
            clear hgw
            go_upto_region 9 with fail
            clear r0 r1 r2 r3 r4 r5 r6 xk5 hWw
            have hkp := KP6.out
            have hsz := SZ6
            have xk5 : w6.cell? ⟨w.heap.size, 5, none⟩ = some (.slice (some ⟨bl, ol, none⟩) m.length mc) := (World.cell?_of_block (hkp w.heap.size (by omega) (by omega))).trans c5'
            have hWw := bstep hw HB6.out hw.size
            obtain ⟨bl2, ol2, c0, c1, c2, c3, c4, c4l, c4c, c5, c5l, c5c, e2, hc, r0, r1, r2, r3, r4, r5, r6⟩ := openM hWw HM.out.hdr HM.out.rows hjl (HM.out.each j hjl)
            obtain ⟨rfl, rfl⟩ : bl = bl2 ∧ ol = ol2 := by simpa using e2
            have hLx := HM.out.each j hjl
            rw [hc] at hLx
            have HLX := Lib.hid (hLx.bound.later hWw)
            clear hc hLx hkp e2
            by_cases he : m[j].1 = key
            · have f1 : (m[j].1.toList == key.toList) = true := by rw [he]; simp
              have HE2 : Hid ((K6).map strip ++ rputG key x true (m.drop (j + 1)) = rputG key x false m) := HEEQ6.out he
              clear he hWw
              go_wp2_with fail
              go_roundw
              case rel => exact ⟨j + 1, true, a5, e5, K6, by omega, by go_num, rfl, HK6, HE2, by omega, BO6, FZ6, KP6, SZ6, HB6⟩
              case measure => simp [intOf]; omega
            · have f1 := str_ne he
              have HE2 : Hid ((K6 ++ [(m[j].1, m[j].2, (#[.int .i64 c0, .bool c1, .int .i64 c2, .string c3, .slice c4 c4l c4c, .slice c5 c5l c5c] : Array Value))]).map strip ++ rputG key x true (m.drop (j + 1)) = rputG key x false m) := HENE6.out he _
              clear he
              obtain ⟨xo0, xo1, xo2, xo3, xo4, xo5⟩ := BO6.out
              have hko := HM.out.keys j hjl
              go_upto_region 10 with fail
              have hZ := Lib.hid ((Below.refl w6.heap.size w6).alloc (Nat.le_refl _) (.cells #[.string m[j].1, .int .i64 c0, .bool c1, .int .i64 c2, .string c3, .slice c4 c4l c4c, .slice c5 c5l c5c] 51))
              have HKa := Lib.hid (HK6.out.later hZ.out)
              have hex := World.block_lt_of_cell? _ _ xo5
              have HKd := Lib.hid (HKa.out.later (Below.refl _ _).drew)
              have hexK : (Value.slice a5 K6.length e5).ownBlock ≠ some (w.heap.size + 3) := fun e => by have := (HK6.out.block e).1; omega
              go_region_law (
                refine step_append_own rfl (.tmp 47) (.tmp 53) 23 rfl (w.heap.size + 3 + 1) 51 i0 _ 7 104 Tryz.underlying23 HI0.out HZ0.out HZ1.out HZ2.out (by rfl) (by decide) (.slice a5 K6.length e5) K6.length _ rfl (by first | exact HKd.out.own | exact HKa.out.own) ⟨w6.heap.size, 0, none⟩ 1 1 [.string m[j].1, .int .i64 c0, .bool c1, .int .i64 c2, .string c3, .slice c4 c4l c4c, .slice c5 c5l c5c] rfl rfl (fun i u hu => lit_cells w6 _ _ i u hu) (fun u hu => by
                  simp at hu
                  rcases hu with rfl | rfl | rfl | rfl | rfl | rfl | rfl <;> rfl) (by unfold maxLen; omega) (by omega) (by simp; omega) ?_
                intro v5 w9 own5 hg5 hob5
                obtain ⟨a8, e8, rfl⟩ := row_form own5
                have OWN5 := Lib.hid own5
                have HOB5 := Lib.hid hob5
                have hb5 : w9.heap[w.heap.size + 3]? = w6.heap[w.heap.size + 3]? := (hg5.block (w.heap.size + 3) (by simp; omega) (fun e => hexK e.symm)).trans (Below.heap_alloc _ _ _ hex)
                have xs5 : w9.cell? ⟨w.heap.size + 1 + 1 + 1, 5, none⟩ = some (.slice a5 K6.length e5) := (World.cell?_of_block hb5).trans xo5
                have xf5 : ∀ j, w9.frozen? ⟨w.heap.size + 1 + 1 + 1, j, none⟩ = false := fun j => (World.frozen?_of_block hb5).trans (FZ6.out j)
                clear own5 hob5)
              all_goals
                have hlen : (K6 ++ [(m[j].1, m[j].2, (#[.int .i64 c0, .bool c1, .int .i64 c2, .string c3, .slice c4 c4l c4c, .slice c5 c5l c5c] : Array Value))]).length = K6.length + 1 := by rw [List.length_append]; rfl
                have HLN := Lib.hid hlen
                have hg5 := undrewG hg5
                have hs5 := hg5.size
                have hsa : w6.heap.size + 1 ≤ w9.heap.size := by simpa using hs5
                have hxo : ∀ b, R1 b ∧ b < w0.heap.size → (R1 b ∨ R2 b) ∧ b < w0.heap.size := fun b hb => ⟨.inl hb.1, hb.2⟩
                have hobK : ∀ g, (Value.slice a5 K6.length e5).ownBlock = some g → w.heap.size + 3 < g := fun g hg => (HK6.out.block hg).1
                have HLa : Lies (w6.alloc (.cells #[.string m[j].1, .int .i64 c0, .bool c1, .int .i64 c2, .string c3, .slice c4 c4l c4c, .slice c5 c5l c5c] 51)) (fun b => ((R1 b ∨ R2 b) ∧ b < w0.heap.size) ∧ b < (w6.alloc (.cells #[.string m[j].1, .int .i64 c0, .bool c1, .int .i64 c2, .string c3, .slice c4 c4l c4c, .slice c5 c5l c5c] 51)).heap.size ∧ (Value.slice a5 K6.length e5).ownBlock ≠ some b ∧ b ≠ w.heap.size + 3) m[j].2 #[.int .i64 c0, .bool c1, .int .i64 c2, .string c3, .slice c4 c4l c4c, .slice c5 c5l c5c] :=
                  (HLX.out.later hZ.out).weaken fun b hb => by
                    have h0 := hw.size
                    have h1 := hb.2
                    exact ⟨⟨.inl hb.1, h1⟩, by simp; omega, fun e => by have := hobK _ e; omega, by omega⟩
                have HK5 := HKa.out.one HLa hko (OWN5.out) hg5 (HOB5.out.imp id (fun h => h.trans (by simp)))
                have HKn : Hid (OwnW (fun b => (R1 b ∨ R2 b) ∧ b < w0.heap.size) (w.heap.size + 3) (setRow w9 (w.heap.size + 3) 5 [.slice a8 (K6.length + 1) e8]) (.slice a8 (K6 ++ [(m[j].1, m[j].2, (#[.int .i64 c0, .bool c1, .int .i64 c2, .string c3, .slice c4 c4l c4c, .slice c5 c5l c5c] : Array Value))]).length e8) (K6 ++ [(m[j].1, m[j].2, (#[.int .i64 c0, .bool c1, .int .i64 c2, .string c3, .slice c4 c4l c4c, .slice c5 c5l c5c] : Array Value))])) := by
                  show OwnW _ _ _ _ _
                  rw [hlen]
                  exact HK5.keep (fun b _ hne => setRow_heap _ _ _ _ _ hne) (by rw [setRow_size]; exact Nat.le_refl _)
                have B5 : BoxA w9 (w.heap.size + 3) (.int .i64 5) (.bool false) (.int .i64 0) (.string ⟨#[]⟩) (.slice none 0 0) (.slice a5 K6.length e5) := ⟨(World.cell?_of_block hb5).trans xo0, (World.cell?_of_block hb5).trans xo1, (World.cell?_of_block hb5).trans xo2, (World.cell?_of_block hb5).trans xo3, (World.cell?_of_block hb5).trans xo4, xs5⟩
                have BOn : Hid (BoxA (setRow w9 (w.heap.size + 3) 5 [.slice a8 (K6.length + 1) e8]) (w.heap.size + 1 + 1 + 1) (.int .i64 5) (.bool false) (.int .i64 0) (.string ⟨#[]⟩) (.slice none 0 0) (.slice a8 (K6 ++ [(m[j].1, m[j].2, (#[.int .i64 c0, .bool c1, .int .i64 c2, .string c3, .slice c4 c4l c4c, .slice c5 c5l c5c] : Array Value))]).length e8)) := by
                  show BoxA _ _ _ _ _ _ _ _
                  rw [hlen]
                  exact setRow_boxA (.slice a8 (K6.length + 1) e8) B5
                have FZn : Hid (∀ j, (setRow w9 (w.heap.size + 3) 5 [.slice a8 (K6.length + 1) e8]).frozen? ⟨w.heap.size + 1 + 1 + 1, j, none⟩ = false) := fun j => (setRow_frozen _ _ _ _ _).trans (xf5 j)
                have KPn : Hid (∀ b, b < v.heap.size → b ≠ w.heap.size + 3 → (setRow w9 (w.heap.size + 3) 5 [.slice a8 (K6.length + 1) e8]).heap[b]? = v.heap[b]?) := fun b hb hne =>
                  (setRow_heap _ _ _ _ _ hne).trans ((hg5.block b (by simp; omega) (fun e => by have := hobK _ e.symm; omega)).trans ((Below.heap_alloc _ _ _ (by omega)).trans (KP6.out b hb hne)))
                have SZn : v.heap.size ≤ (setRow w9 (w.heap.size + 3) 5 [.slice a8 (K6.length + 1) e8]).heap.size := by rw [setRow_size]; omega
                have HBn : Hid (Below w.heap.size w (setRow w9 (w.heap.size + 3) 5 [.slice a8 (K6.length + 1) e8])) := setRow_below _ (by omega) _ _ _ ((HB6.out.alloc (by omega) (.cells #[.string m[j].1, .int .i64 c0, .bool c1, .int .i64 c2, .string c3, .slice c4 c4l c4c, .slice c5 c5l c5c] 51)).grown hg5 (by simp; omega) (fun g hg => by have := hobK g hg; omega))
                clear hs5 hsa hxo HLa HK5 B5 hb5 hg5 xs5 xf5 r0 r1 r2 r3 r4 r5 r6 xk5 hWw
                go_wp2_with fail
                go_roundw
                case rel => first
                  | exact ⟨j + 1, true, a8, e8, K6 ++ [(m[j].1, m[j].2, (#[.int .i64 c0, .bool c1, .int .i64 c2, .string c3, .slice c4 c4l c4c, .slice c5 c5l c5c] : Array Value))], by omega, by go_num, rfl, HKn, HE2, by rw [HLN.out]; omega, BOn, FZn, KPn, SZn, HBn⟩
                  | exact ⟨j + 1, true, a8, e8, K6 ++ [(m[j].1, m[j].2, (#[.int .i64 c0, .bool c1, .int .i64 c2, .string c3, .slice c4 c4l c4c, .slice c5 c5l c5c] : Array Value))], by omega, by go_num, rfl, HKn.out.later (Below.refl _ _).drew, HE2, by rw [HLN.out]; omega, BOn, FZn, KPn, SZn, HBn.out.drew⟩
                case measure => simp [intOf]; omega
      · obtain rfl : j = m.length := by omega
        have hkp := KP.out
        have xk5 : wr.cell? ⟨w.heap.size, 5, none⟩ = some (.slice ma m.length mc) := (World.cell?_of_block (hkp w.heap.size (by omega) (by omega))).trans c5'
        cases laid with
        | true =>
          have HF : Hid (K.map strip = rputG key x false m) := by
            show _ = _
            rw [← HE.out, List.drop_length, rputG, if_pos rfl, List.append_nil]
          clear hkp
          have hkp := KP.out
          have hsz := SZ
          have z2 : ∀ j, wr.cell? ⟨w.heap.size + 1 + 1, j, none⟩ = (#[.int .i64 0, .bool false, .int .i64 0, .string ⟨#[]⟩, .slice none 0 0, .slice none 0 0] : Array Value)[j]? := fun j => (World.cell?_of_block (hkp (w.heap.size + 2) (by omega) (by omega))).trans (Q2.out j)
          have z3 : ∀ j, wr.frozen? ⟨w.heap.size + 1 + 1, j, none⟩ = false := fun j => (World.frozen?_of_block (hkp (w.heap.size + 2) (by omega) (by omega))).trans (Q3.out j)
          have Z2 := Lib.hid z2
          obtain ⟨xo0, xo1, xo2, xo3, xo4, xo5⟩ := BO.out
          obtain ⟨a9, e9, cm9, ev, hS9⟩ := HK.out.done (by omega)
          obtain ⟨rfl, rfl⟩ : al = a9 ∧ cl' = e9 := by simpa using ev
          rw [HF.out] at hS9
          have HS9 := Lib.hid hS9
          have HLE : Hid ((K).length = (rputG key x false m).length) := by
            show _ = _
            rw [← HF.out, List.length_map]
          clear ev hS9 hkp
          go_wp2_with fail
          refine ret_cells wr (w.heap.size + 2) [.int .i64 5, .bool false, .int .i64 0, .string ⟨#[]⟩, .slice none 0 0, .slice al (K).length cl'] rfl Tryz.results35 rfl rfl DD.out HU.out Tryz.sizeV (fun i hi => ⟨_, (Z2.out i).trans (Array.getElem?_eq_getElem (show i < 6 from hi))⟩) ?_
          rw [HLE.out]
          have hw0 := hw.size
          exact ⟨_, rfl, Lies.of_slices (m := rputG key x false m) wf5 wf0 empty_size (empty_sliceV _ _) ((HS9.out.keepB (fun b hb _ => setRow_heap _ [.int .i64 5, .bool false, .int .i64 0, .string ⟨#[]⟩, .slice none 0 0, .slice al (rputG key x false m).length cl'] _ _ _ (by rcases hb.1 with h | h; (have := h.2; omega); omega))).weaken (fun b hb => by
            rcases hb.1 with h | h
            · exact .inl h
            · exact .inr (by omega))), setRow_below _ (by omega) [.int .i64 5, .bool false, .int .i64 0, .string ⟨#[]⟩, .slice none 0 0, .slice al (rputG key x false m).length cl'] _ _ HB.out⟩
        | false =>
          obtain ⟨xo0, xo1, xo2, xo3, xo4, xo5⟩ := BO.out
          have hfz := FZ.out
          have hsz := SZ
          have y : ∀ i, wr.cell? ⟨w.heap.size + 1, i, none⟩ = _ := fun i => (World.cell?_of_block (hkp (w.heap.size + 1) (by omega) (by omega))).trans (Q1.out i)
          have xx0 : wr.cell? ⟨w.heap.size + 1, 0, none⟩ = some (.int .i64 x0) := y 0
          have xx1 : wr.cell? ⟨w.heap.size + 1, 1, none⟩ = some (.bool x1) := y 1
          have xx2 : wr.cell? ⟨w.heap.size + 1, 2, none⟩ = some (.int .i64 x2) := y 2
          have xx3 : wr.cell? ⟨w.heap.size + 1, 3, none⟩ = some (.string x3) := y 3
          have xx4 : wr.cell? ⟨w.heap.size + 1, 4, none⟩ = some (.slice x4 x4l x4c) := y 4
          have xx5 : wr.cell? ⟨w.heap.size + 1, 5, none⟩ = some (.slice x5 x5l x5c) := y 5
          have hZ := Lib.hid ((Below.refl wr.heap.size wr).alloc (Nat.le_refl _) (.cells #[.string key, .int .i64 x0, .bool x1, .int .i64 x2, .string x3, .slice x4 x4l x4c, .slice x5 x5l x5c] 51))
          have HKa := Lib.hid (HK.out.later hZ.out)
          have hex := World.block_lt_of_cell? _ _ xo5
          have hobK : ∀ g, (Value.slice al K.length cl').ownBlock = some g → w.heap.size + 3 < g := fun g hg => (HK.out.block hg).1
          have HOBK := Lib.hid hobK
          clear y hkp hobK
          go_upto_region 13 with (at_builtin; refine wpList_append_own_at _ rfl (.tmp 59) (.tmp 63) 23 rfl (w.heap.size + 3 + 1) 51 i0 _ 7 104 Tryz.underlying23 HI0.out HZ0.out HZ1.out HZ2.out (by rfl) (by decide) (.slice al K.length cl') K.length _ rfl HKa.out.own ⟨wr.heap.size, 0, none⟩ 1 1 [.string key, .int .i64 x0, .bool x1, .int .i64 x2, .string x3, .slice x4 x4l x4c, .slice x5 x5l x5c] rfl rfl (fun i u hu => lit_cells wr _ _ i u hu) (fun u hu => by
            simp at hu
            rcases hu with rfl | rfl | rfl | rfl | rfl | rfl | rfl <;> rfl) (by unfold maxLen; omega) (by omega) (by simp; omega) ?_; intro v5 w5 own5 hg5 _ hob5; obtain ⟨a5, e5, rfl⟩ := row_form own5; have OWN5 := Lib.hid own5; have HOB5 := Lib.hid hob5; have hb5 : w5.heap[w.heap.size + 3]? = wr.heap[w.heap.size + 3]? := (hg5.block (w.heap.size + 3) (by simp; omega) (fun e => by have := HOBK.out _ e.symm; omega)).trans (Below.heap_alloc _ _ _ hex); have xs5 : w5.cell? ⟨w.heap.size + 1 + 1 + 1, 5, none⟩ = some (.slice al K.length cl') := (World.cell?_of_block hb5).trans xo5; have xf5 : ∀ j, w5.frozen? ⟨w.heap.size + 1 + 1 + 1, j, none⟩ = false := fun j => (World.frozen?_of_block hb5).trans (FZ.out j); clear own5 hob5)
          have hobK := HOBK.out
          have hlen : (K ++ [(key, x, (#[.int .i64 x0, .bool x1, .int .i64 x2, .string x3, .slice x4 x4l x4c, .slice x5 x5l x5c] : Array Value))]).length = K.length + 1 := by rw [List.length_append]; rfl
          have hs5 := hg5.size
          have hsa : wr.heap.size + 1 ≤ w5.heap.size := by simpa using hs5
          have HLa : Lies (wr.alloc (.cells #[.string key, .int .i64 x0, .bool x1, .int .i64 x2, .string x3, .slice x4 x4l x4c, .slice x5 x5l x5c] 51)) (fun b => ((R1 b ∨ R2 b) ∧ b < w0.heap.size) ∧ b < (wr.alloc (.cells #[.string key, .int .i64 x0, .bool x1, .int .i64 x2, .string x3, .slice x4 x4l x4c, .slice x5 x5l x5c] 51)).heap.size ∧ (Value.slice al K.length cl').ownBlock ≠ some b ∧ b ≠ w.heap.size + 3) x #[.int .i64 x0, .bool x1, .int .i64 x2, .string x3, .slice x4 x4l x4c, .slice x5 x5l x5c] :=
            ((HX2.out.bound.later (bstep hw HB.out hw.size)).later hZ.out).weaken fun b hb => by
              have h0 := hw.size
              have h1 := hb.2
              exact ⟨⟨.inr hb.1, h1⟩, by simp; omega, fun e => by have := hobK _ e; omega, by omega⟩
          have HK5 := HKa.out.one HLa hkey (OWN5.out) hg5 (HOB5.out.imp id (fun h => h.trans (by simp)))
          have HK6 : Hid (OwnW (fun b => (R1 b ∨ R2 b) ∧ b < w0.heap.size) (w.heap.size + 3) (w5.setCell ⟨w.heap.size + 1 + 1 + 1, 5, none⟩ (.slice a5 (K.length + 1) e5)) (.slice a5 (K.length + 1) e5) (K ++ [(key, x, (#[.int .i64 x0, .bool x1, .int .i64 x2, .string x3, .slice x4 x4l x4c, .slice x5 x5l x5c] : Array Value))])) :=
            HK5.keep (fun b _ hne => setRow_heap (w.heap.size + 3) [.slice a5 (K.length + 1) e5] w5 5 b hne) (by have := setRow_size (w.heap.size + 3) [.slice a5 (K.length + 1) e5] w5 5; exact Nat.le_of_eq this.symm)
          have B5 : BoxA w5 (w.heap.size + 3) (.int .i64 5) (.bool false) (.int .i64 0) (.string ⟨#[]⟩) (.slice none 0 0) (.slice al K.length cl') := ⟨(World.cell?_of_block hb5).trans xo0, (World.cell?_of_block hb5).trans xo1, (World.cell?_of_block hb5).trans xo2, (World.cell?_of_block hb5).trans xo3, (World.cell?_of_block hb5).trans xo4, xs5⟩
          have BO6 : Hid (BoxA (w5.setCell ⟨w.heap.size + 1 + 1 + 1, 5, none⟩ (.slice a5 (K.length + 1) e5)) (w.heap.size + 1 + 1 + 1) (.int .i64 5) (.bool false) (.int .i64 0) (.string ⟨#[]⟩) (.slice none 0 0) (.slice a5 (K.length + 1) e5)) := setRow_boxA (.slice a5 (K.length + 1) e5) B5
          have FZ6 : Hid (∀ j, (w5.setCell ⟨w.heap.size + 1 + 1 + 1, 5, none⟩ (.slice a5 (K.length + 1) e5)).frozen? ⟨w.heap.size + 1 + 1 + 1, j, none⟩ = false) := fun j => (setRow_frozen (w.heap.size + 3) [.slice a5 (K.length + 1) e5] w5 5 _).trans (xf5 j)
          have KP6 : Hid (∀ b, b < v.heap.size → b ≠ w.heap.size + 3 → (w5.setCell ⟨w.heap.size + 1 + 1 + 1, 5, none⟩ (.slice a5 (K.length + 1) e5)).heap[b]? = v.heap[b]?) := fun b hb hne =>
            (setRow_heap (w.heap.size + 3) [.slice a5 (K.length + 1) e5] w5 5 b hne).trans ((hg5.block b (by simp; omega) (fun e => by have := hobK _ e.symm; omega)).trans ((Below.heap_alloc _ _ _ (by omega)).trans (KP.out b hb hne)))
          have SZ6 : v.heap.size ≤ (w5.setCell ⟨w.heap.size + 1 + 1 + 1, 5, none⟩ (.slice a5 (K.length + 1) e5)).heap.size := by have := setRow_size (w.heap.size + 3) [.slice a5 (K.length + 1) e5] w5 5; exact Nat.le_trans (by omega : v.heap.size ≤ w5.heap.size) (Nat.le_of_eq this.symm)
          have HB6 : Hid (Below w.heap.size w (w5.setCell ⟨w.heap.size + 1 + 1 + 1, 5, none⟩ (.slice a5 (K.length + 1) e5))) := setRow_below (w.heap.size + 3) (by omega) [.slice a5 (K.length + 1) e5] w5 5 ((HB.out.alloc (by omega) (.cells #[.string key, .int .i64 x0, .bool x1, .int .i64 x2, .string x3, .slice x4 x4l x4c, .slice x5 x5l x5c] 51)).grown hg5 (by simp; omega) (fun g hg => by have := hobK g hg; omega))
          obtain ⟨K6, eK6⟩ : ∃ K6, K6 = K ++ [(key, x, (#[.int .i64 x0, .bool x1, .int .i64 x2, .string x3, .slice x4 x4l x4c, .slice x5 x5l x5c] : Array Value))] := ⟨_, rfl⟩
          have hK6 : K6.length = K.length + 1 := by rw [eK6, hlen]
          have hKl6 : K6.length ≤ 2 * m.length + 1 := by omega
          have HF6 : Hid (K6.map strip = rputG key x false m) := by
            show _ = _
            rw [← HE.out, List.drop_length, eK6, List.map_append]
            rfl
          rw [← eK6, ← hK6] at HK6
          rw [← hK6] at BO6
          rw [← hK6] at FZ6 KP6 SZ6 HB6 ⊢
          clear hs5 hsa HLa HK5 B5 hb5 hg5 xs5 xf5 xo0 xo1 xo2 xo3 xo4 xo5 hfz xx0 xx1 xx2 xx3 xx4 xx5 hlen eK6 hK6 HKa hZ OWN5 HOB5
          generalize hgw : w5.setCell ⟨w.heap.size + 1 + 1 + 1, 5, none⟩ (.slice a5 K6.length e5) = w6 at *
          clear hgw
          have hkp := KP6.out
          have hsz := SZ6
          have z2 : ∀ j, w6.cell? ⟨w.heap.size + 1 + 1, j, none⟩ = (#[.int .i64 0, .bool false, .int .i64 0, .string ⟨#[]⟩, .slice none 0 0, .slice none 0 0] : Array Value)[j]? := fun j => (World.cell?_of_block (hkp (w.heap.size + 2) (by omega) (by omega))).trans (Q2.out j)
          have z3 : ∀ j, w6.frozen? ⟨w.heap.size + 1 + 1, j, none⟩ = false := fun j => (World.frozen?_of_block (hkp (w.heap.size + 2) (by omega) (by omega))).trans (Q3.out j)
          have Z2 := Lib.hid z2
          obtain ⟨xo0, xo1, xo2, xo3, xo4, xo5⟩ := BO6.out
          obtain ⟨a9, e9, cm9, ev, hS9⟩ := HK6.out.done (by omega)
          obtain ⟨rfl, rfl⟩ : a5 = a9 ∧ e5 = e9 := by simpa using ev
          rw [HF6.out] at hS9
          have HS9 := Lib.hid hS9
          have HLE : Hid ((K6).length = (rputG key x false m).length) := by
            show _ = _
            rw [← HF6.out, List.length_map]
          clear ev hS9 hkp
          go_wp2_with fail
          refine ret_cells w6 (w.heap.size + 2) [.int .i64 5, .bool false, .int .i64 0, .string ⟨#[]⟩, .slice none 0 0, .slice a5 (K6).length e5] rfl Tryz.results35 rfl rfl DD.out HU.out Tryz.sizeV (fun i hi => ⟨_, (Z2.out i).trans (Array.getElem?_eq_getElem (show i < 6 from hi))⟩) ?_
          rw [HLE.out]
          have hw0 := hw.size
          exact ⟨_, rfl, Lies.of_slices (m := rputG key x false m) wf5 wf0 empty_size (empty_sliceV _ _) ((HS9.out.keepB (fun b hb _ => setRow_heap _ [.int .i64 5, .bool false, .int .i64 0, .string ⟨#[]⟩, .slice none 0 0, .slice a5 (rputG key x false m).length e5] _ _ _ (by rcases hb.1 with h | h; (have := h.2; omega); omega))).weaken (fun b hb => by
            rcases hb.1 with h | h
            · exact .inl h
            · exact .inr (by omega))), setRow_below _ (by omega) [.int .i64 5, .bool false, .int .i64 0, .string ⟨#[]⟩, .slice none 0 0, .slice a5 (rputG key x false m).length e5] _ _ HB6.out⟩

end Go.Proofs.YtlniokpekcoodaaGreatDoor
