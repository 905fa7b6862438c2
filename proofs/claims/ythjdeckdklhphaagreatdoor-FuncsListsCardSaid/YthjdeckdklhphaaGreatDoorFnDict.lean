/-
  Package funcs' dict: the map of keys and values by turns.
-/
import Derived.Test.YthjdeckdklhphaaGreatDoorFnLst
import Derived.Test.YthjdeckdklhphaaGreatDoorFnKeysM
import Derived.Test.YthjdeckdklhphaaGreatDoorOwnDM
import Derived.StillTailTactics
set_option linter.unusedVariables false
set_option linter.unusedSimpArgs false
namespace Go.Proofs.YthjdeckdklhphaaGreatDoor
open Go.RowKit

theorem key_cells {w : World} {R : Nat → Prop} {s : ByteArray} {cs : Array Value} (h : Lies w R (keyT s) cs) : ∃ a1 a2 a4 a4c a5 a5c, cs = #[.int .i64 3, .bool a1, .int .i64 a2, .string s, .slice a4 0 a4c, .slice a5 0 a5c] ∧ s.size ≤ 140737488355328 := by
  have h2 : Lies w R (.mk 3 false 0 s [] []) cs := h
  cases h2 with
  | mk k b n s l m la lc ma mc cl cm hk hn hs hl hm rl rm ks il im => exact ⟨_, _, _, _, _, _, rfl, hs⟩

set_option maxRecDepth 100000 in
set_option maxHeartbeats 800000 in
theorem tMap_zero (a0 : Option Addr) (c0 : Nat) (w : World) : Calls Tryz.prog 71 #[.slice a0 0 c0] w fun e w' => e = .returned (.agg #[.int .i64 5, .bool false, .int .i64 0, .string ⟨#[]⟩, .slice none 0 0, .slice none 0 0]) ∧ Below w.heap.size w w' := by
  go_enter Tryz.func71, Tryz.ntmps71
  go_wp2_with fail
  refine (sCloneP_zero _).mono ?_
  rintro e w1 ⟨a, c, rfl, hn, hc, hB⟩
  obtain ⟨z1, z2⟩ := one_boxD hB
  have HB := Lib.hid (bunbox hB (Nat.le_refl w.heap.size) (by simp))
  clear hB hn
  go_wp2_with fail
  refine (sort_zero _ _ _).mono ?_
  rintro e w2 ⟨rfl, rfl⟩
  go_wp2_with fail
  refine wp_loop_rounds 1 ?_
  rw [rounds_succ]
  go_wp2_with fail
  obtain ⟨dd, hu, hdd⟩ := Tryz.structV
  refine ret_cells w1 w.heap.size [.int .i64 5, .bool false, .int .i64 0, .string ⟨#[]⟩, .slice none 0 0, .slice none 0 0] rfl Tryz.results71 rfl rfl hdd hu Tryz.sizeV (fun i hi => ⟨_, (z1 i).trans (Array.getElem?_eq_getElem (show i < 6 from hi))⟩) ?_
  exact ⟨rfl, setRow_below _ (Nat.le_refl _) _ _ _ HB.out⟩
theorem tMap_all {w0 : World} {R : Nat → Prop} {ps : List (ByteArray × T)} {a : Option Addr} {cap : Nat} {cm : Nat → Array Value} (h : SliceP w0 R ps a cap cm) (hp2 : ps.length ≤ 1000000) (w : World) (hw : Below w0.heap.size w0 w) :
    Calls Tryz.prog 71 #[.slice a ps.length cap] w (MadeAll w ps) := by
  by_cases hp : 0 < ps.length
  · exact tMap_some h hp hp2 w hw
  · obtain rfl : ps = [] := List.eq_nil_of_length_eq_zero (by omega)
    refine (tMap_zero a cap w).mono ?_
    rintro e w' ⟨rfl, hb⟩
    exact ⟨_, rfl, lies_map0 _ _, hb⟩

set_option maxRecDepth 100000 in
set_option maxHeartbeats 2000000 in
theorem fdict_any {w0 : World} {R : Nat → Prop} {ts : List T} {a : Option Addr} {cap : Nat} {cl : Nat → Array Value} (h : SliceV w0 R ts a cap cl) (ps : List (ByteArray × T)) (hn : ts.length = 2 * ps.length) (hp : ps.length ≤ 100000)
    (hk : ∀ j (h : j < ps.length) (h1 : 2 * j < ts.length), ts[2 * j] = keyT ps[j].1) (hv : ∀ j (h : j < ps.length) (h1 : 2 * j + 1 < ts.length), ts[2 * j + 1] = ps[j].2)
    (hz : (T.mk 5 false 0 ⟨#[]⟩ [] (putAll ps)).size ≤ 4611686018427387904) (w : World) (hw : Below w0.heap.size w0 w) :
    Calls Tryz.prog 38 #[.slice a ts.length cap] w fun e w' => ∃ ds, e = .returned (.tuple #[.agg ds, .int .i64 (T.mk 5 false 0 ⟨#[]⟩ [] (putAll ps)).check]) ∧ Lies w' (fun b => w.heap.size ≤ b) (.mk 5 false 0 ⟨#[]⟩ [] (putAll ps)) ds ∧ Below w.heap.size w w' := by
  have hl := h.hdr
  have ll := hl.le
  have lx := hl.big
  have HS := Lib.hid h
  have HK := Lib.hid hk
  have HVL := Lib.hid hv
  obtain ⟨i0, hi, hz0, hz1, hz2⟩ := info_parts Tryz.infoP
  have HI0 := Lib.hid hi
  have HZ0 := Lib.hid hz0
  have HZ1 := Lib.hid hz1
  have HZ2 := Lib.hid hz2
  clear h hk hv
  obtain ⟨dd, hu, hdd⟩ := Tryz.structV
  have DD := Lib.hid hdd
  have HU := Lib.hid hu
  clear hdd hu
  have hbv : Below w.heap.size w (w.alloc (.cells zeroV 28)) := ((Below.refl _ _).alloc (Nat.le_refl _) _)
  have b0 : Box6 (w.alloc (.cells zeroV 28)) (w.heap.size) zeroV := by
    have := Box6.new w zeroV 28
    exact this
  have tz := Thaw.new w zeroV 28
  have es : (w.alloc (.cells zeroV 28)).heap.size = w.heap.size + 1 := by simp
  have B0 := Lib.hid b0
  have TZ := Lib.hid tz
  have HV := Lib.hid hbv
  have ES := Lib.hid es
  clear hbv tz es b0
  go_enter Tryz.func38, Tryz.ntmps38
  go_upto_region 1 with fail
  generalize (w.alloc (.cells zeroV 28)) = v at *
  have hvs := Nat.le_of_eq ES.out.symm
  have HWV := Lib.hid (bstep hw HV.out hw.size)
  have hrm : (2 * (ps.length : Int)).tmod 2 = 0 := Int.mul_tmod_right 2 _
  have hq : (2 * (ps.length : Int)).tdiv 2 = (ps.length : Int) := Int.mul_tdiv_cancel_left _ (by decide)
  go_wp2_with (at_make; refine wpList_make_own _ rfl _ _ 26 rfl (w.heap.size + 1) 48 i0 _ 7 Tryz.underlying26 hi hz0 hz1 .i64 .i64 _ ps.length rfl rfl rfl (by rw [hz2]; omega) (by unfold maxLen; omega) (by omega) ?_; intro w1 hown hgrow)
  go_loopw [4, 5] (fun vn vi wr => ∃ (i j : Nat) (K : List Q) (al : Option Addr) (cl' : Nat), i = 2 * j ∧ j ≤ ps.length ∧ vi = .int .i64 i ∧ vn = .slice al K.length cl' ∧ K.length = j ∧ Hid (OwnD (fun b => b < w.heap.size) w.heap.size wr (.slice al K.length cl') K) ∧ Hid (K.map strip = ps.take j) ∧ Below v.heap.size v wr ∧ v.heap.size < wr.heap.size) (fun _ vi _ => 2 * ps.length - (intOf vi).toNat)
  case atStart => exact ⟨0, 0, [], _, _, rfl, Nat.zero_le _, rfl, rfl, rfl, ⟨hown, fun i h => absurd h (by simp), fun i h => absurd h (by simp)⟩, rfl, (Below.refl _ _).grown hgrow (Nat.le_refl _) (by simp), by
    have := hown.lt v.heap.size (by simp [Value.ownBlock]); omega⟩
  case round =>
    obtain ⟨i, j, K, al, cl', hij, hj, rfl, rfl, hKl, HB, HKS, hbw, hlt⟩ := hrel
    have hbw2 := bstep HWV.out hbw HWV.out.size
    have HBW := Lib.hid hbw
    have HKL := Lib.hid hKl
    have hKj := Nat.le_of_eq hKl
    clear hbw hKl
    have HIJ0 := Lib.hid hij
    by_cases hjl : j < ps.length
    · have c1 : decide ((i : Int) < 2 * (ps.length : Int)) = true := decide_eq_true (by omega)
      have hi1 : i < ts.length := by omega
      have hi2 : i + 1 < ts.length := by omega
      have L1 : Lies w0 R (keyT ps[j].1) (cl i) := by
        have := HS.out.each i hi1
        have e := HK.out j hjl (by omega)
        simp only [← hij] at e
        rw [e] at this
        exact this
      have L2 : Lies w0 R ps[j].2 (cl (i + 1)) := by
        have := HS.out.each (i + 1) hi2
        have e := HVL.out j hjl (by omega)
        simp only [← hij] at e
        rw [e] at this
        exact this
      have hiA : i < 2 * ps.length := by omega
      have hiB : i + 1 < 2 * ps.length := by omega
      have hiC : (i : Int) < 2 * (ps.length : Int) := by omega
      have hiD : (i : Int) + 1 < 2 * (ps.length : Int) := by omega
      obtain ⟨bl, ol, k0, k1, k2, k3, k4, k4l, k4c, k5, k5l, k5c, rfl, hc1, r0, r1, r2, r3, r4, r5⟩ := openL hbw2 hl HS.out.rows hi1 (HS.out.each i hi1)
      obtain ⟨bl', ol', g0, g1, g2, g3, g4, g4l, g4c, g5, g5l, g5c, e2, hc2, s0, s1, s2, s3, s4, s5⟩ := openL hbw2 hl HS.out.rows hi2 (HS.out.each (i + 1) hi2)
      obtain ⟨rfl, rfl⟩ : bl = bl' ∧ ol = ol' := by simpa using e2
      have hbl : bl < w0.heap.size := (HS.out.rows i hi1 bl ol rfl).lt (by rw [hc1]; simp)
      rw [hc1] at L1
      rw [hc2] at L2
      obtain ⟨a1, a2, a4, a4c, a5, a5c, e1, hkz⟩ := key_cells L1
      simp at e1
      obtain ⟨rfl, rfl, rfl, rfl, ⟨rfl, rfl, rfl⟩, rfl, rfl, rfl⟩ := e1
      have HP1 : Hid (∀ ds : Array Value, (K ++ [((ps[j].1, ps[j].2, ds) : Q)]).map strip = ps.take (j + 1)) := by
        intro ds
        rw [List.take_succ_eq_append_getElem hjl, List.map_append, HKS.out]
        rfl
      obtain ⟨key, hkey⟩ : ∃ key, key = ps[j].1 := ⟨_, rfl⟩
      obtain ⟨x, hx⟩ : ∃ x, x = ps[j].2 := ⟨_, rfl⟩
      rw [← hkey] at r3 hkz HP1
      rw [← hx] at L2 HP1
      have HL2 := Lib.hid L2
      have HIJ := Lib.hid hij
      clear hc1 hc2 L1 L2 hkey hx hij e2
      go_upto_region 9 with fail
      obtain hobK : ∀ g, (Value.slice al K.length cl').ownBlock = some g → w.heap.size < g ∧ g < wr.heap.size := fun g hg => HB.out.block hg
      have gw5 : IntKind.i64.wrap ((i : Int) + 1) = (i : Int) + 1 := IntWalk.i64_in _ (by omega)
      have gw6 : IntKind.i64.wrap ((i : Int) + 2) = (i : Int) + 2 := IntWalk.i64_in _ (by omega)
      have G5 := Lib.hid gw5
      clear gw5
      have hw0 := hw.size
      have hwv := HV.out.size
      have hvw := HBW.out.size
      have hvs2 := Nat.le_of_eq ES.out
      refine wp_region_growsD (fun wx => wr.heap.size ≤ wx.heap.size ∧ Below v.heap.size v wx ∧ ∀ b, b < wr.heap.size → (Value.slice al K.length cl').ownBlock ≠ some b → wx.heap[b]? = wr.heap[b]?) (fun wx => OwnD (fun b => b < w.heap.size) w.heap.size wx (Value.slice al K.length cl') (K)) (fun w1 w2 => w1.grownBy w2 (Value.slice al K.length cl').ownBlock ∧ wr.heap.size ≤ w1.heap.size) 13 14 (fun k => match k with | 14 => 4 | _ => 28 + k) (fun k y wx => match k with | 0 => y = .slice al K.length cl' | 1 => y = .slice (some ⟨bl, ol, none⟩) (2 * ps.length) cap | 2 => y = .int .i64 i | 3 => y = .pointer (some ⟨bl, ol + i * 6, none⟩) | 4 => y = .pointer (some ⟨bl, ol + i * 6 + 3, none⟩) | 5 => y = .string key | 6 => y = .slice (some ⟨bl, ol, none⟩) (2 * ps.length) cap | 7 => y = .int .i64 i | 8 => y = .int .i64 ((i : Int) + 1) | 9 => y = .pointer (some ⟨bl, ol + (i + 1) * 6, none⟩) | 10 => y = .agg #[.int .i64 g0, .bool g1, .int .i64 g2, .string g3, .slice g4 g4l g4c, .slice g5 g5l g5c] | 11 => y = .agg #[.string key, .int .i64 g0, .bool g1, .int .i64 g2, .string g3, .slice g4 g4l g4c, .slice g5 g5l g5c] | 12 => ∃ sb : Nat, y = .slice (some ⟨sb, 0, none⟩) 1 1 ∧ (∀ j' u, (#[.string key, .int .i64 g0, .bool g1, .int .i64 g2, .string g3, .slice g4 g4l g4c, .slice g5 g5l g5c] : Array Value).toList[j']? = some u → wx.cell? ⟨sb, j', none⟩ = some u) ∧ wr.heap.size ≤ sb ∧ sb < wx.heap.size | 13 => ∃ (a7 : Option Addr) (e7 : Nat), y = .slice a7 (K.length + 1) e7 ∧ OwnD (fun b => b < w.heap.size) w.heap.size wx (.slice a7 (K.length + 1) e7) (K ++ [((key, x, #[.int .i64 g0, .bool g1, .int .i64 g2, .string g3, .slice g4 g4l g4c, .slice g5 g5l g5c]) : Q)]) | _ => True) (fun _ y wx => ∃ (a7 : Option Addr) (e7 : Nat), y = .slice a7 (K.length + 1) e7 ∧ Hid (OwnD (fun b => b < w.heap.size) w.heap.size wx (.slice a7 (K.length + 1) e7) (K ++ [((key, x, #[.int .i64 g0, .bool g1, .int .i64 g2, .string g3, .slice g4 g4l g4c, .slice g5 g5l g5c]) : Q)])) ∧ Hid (Below v.heap.size v wx) ∧ v.heap.size < wx.heap.size) (by kernel_rfl) (by kernel_rfl) ?g1 (by decide) ⟨Nat.le_refl _, HBW.out.drew, fun _ _ _ => rfl⟩ (HB.out.later (Below.refl _ _).drew) ?g2 ?g3 ?g4 ?g5 ?g6 ?g7 ?g8 ?g9 ?g10
      case g1 => intro k hk; rcases (by omega : k = 0 ∨ k = 1 ∨ k = 2 ∨ k = 3 ∨ k = 4 ∨ k = 5 ∨ k = 6 ∨ k = 7 ∨ k = 8 ∨ k = 9 ∨ k = 10 ∨ k = 11 ∨ k = 12 ∨ k = 13) with rfl | rfl | rfl | rfl | rfl | rfl | rfl | rfl | rfl | rfl | rfl | rfl | rfl | rfl <;> exact Nat.lt_of_lt_of_le (by decide : _ < 47) (Nat.le_refl 47)
      case g2 => exact fun w1 w2 hb ⟨h1, h2, h3⟩ => ⟨Nat.le_trans h1 hb.size, bstep h2 hb h2.size, fun b hb2 hn => (hb.block b (by omega)).trans (h3 b hb2 hn)⟩
      case g3 => exact fun w1 w2 ⟨hg, hsz2⟩ ⟨h1, h2, h3⟩ => ⟨Nat.le_trans h1 hg.size, h2.grown hg h2.size (fun g hg2 => by have := (hobK g hg2).1; omega), fun b hb2 hn => (hg.block b (by omega) (fun e => hn e.symm)).trans (h3 b hb2 hn)⟩
      case g4 => exact fun w1 w2 hb h => h.later hb
      case g5 =>
        intro k y w1 w2 hip hR hU
        obtain ⟨hg, hsz2⟩ := hR
        match k, hU with
        | 12, ⟨sb, e, hc, h1, h2⟩ => exact ⟨sb, e, fun j' u hu => (World.cell?_of_block (hg.block sb h2 (fun e => by have := hobK _ e.symm; omega))).trans (hc j' u hu), h1, Nat.lt_of_lt_of_le h2 hg.size⟩
        | 13, _ => exact absurd rfl hip
        | 0, h | 1, h | 2, h | 3, h | 4, h | 5, h | 6, h | 7, h | 8, h | 9, h | 10, h | 11, h => exact h
        | (n + 14), _ => trivial
      case g6 =>
        intro k y w1 w2 hb hU
        match k, hU with
        | 12, ⟨sb, e, hc, h1, h2⟩ => exact ⟨sb, e, fun j' u hu => (hb.cell (p := ⟨sb, j', none⟩) h2).trans (hc j' u hu), h1, Nat.lt_of_lt_of_le h2 hb.size⟩
        | 13, ⟨a7, e7, e, ho⟩ => exact ⟨a7, e7, e, ho.later hb⟩
        | 0, h | 1, h | 2, h | 3, h | 4, h | 5, h | 6, h | 7, h | 8, h | 9, h | 10, h | 11, h => exact h
        | (n + 14), _ => trivial
      case g7 =>
        intro k o ac wb K' ho hi hip hA hB hdep hK
        obtain ⟨hB1, hB2, hB3⟩ := hB
        have sv0 : ac.tmps[0]?.getD undef = .slice (some ⟨bl, ol, none⟩) (2 * ps.length) cap := hA.sl (t := 0) (by decide)
        have sv4 : ac.tmps[4]?.getD undef = .slice al K.length cl' := hA.sl (t := 4) (by decide)
        have sv5 : ac.tmps[5]?.getD undef = .int .i64 i := hA.sl (t := 5) (by decide)
        have n3 := hB3 bl (by omega) (fun e => by have := (hobK _ e).1; omega)
        have r3 := (World.cell?_of_block (a := ⟨bl, ol + i * 6 + 3, none⟩) n3).trans r3
        have s0 := (World.cell?_of_block (a := ⟨bl, ol + (i + 1) * 6, none⟩) n3).trans s0
        have s1 := (World.cell?_of_block (a := ⟨bl, ol + (i + 1) * 6 + 1, none⟩) n3).trans s1
        have s2 := (World.cell?_of_block (a := ⟨bl, ol + (i + 1) * 6 + 2, none⟩) n3).trans s2
        have s3 := (World.cell?_of_block (a := ⟨bl, ol + (i + 1) * 6 + 3, none⟩) n3).trans s3
        have s4 := (World.cell?_of_block (a := ⟨bl, ol + (i + 1) * 6 + 4, none⟩) n3).trans s4
        have s5 := (World.cell?_of_block (a := ⟨bl, ol + (i + 1) * 6 + 5, none⟩) n3).trans s5
        clear n3 hB3 hA
        rcases (by omega : k = 0 ∨ k = 1 ∨ k = 2 ∨ k = 3 ∨ k = 4 ∨ k = 5 ∨ k = 6 ∨ k = 7 ∨ k = 8 ∨ k = 9 ∨ k = 10 ∨ k = 11 ∨ k = 12) with rfl | rfl | rfl | rfl | rfl | rfl | rfl | rfl | rfl | rfl | rfl | rfl | rfl
        · simp at ho
          subst ho
          clear hdep
          go_simp
          exact hK _ wb (Below.refl _ _) rfl
        · simp at ho
          subst ho
          clear hdep
          go_simp
          exact hK _ wb (Below.refl _ _) rfl
        · simp at ho
          subst ho
          clear hdep
          go_simp
          exact hK _ wb (Below.refl _ _) rfl
        · simp at ho
          subst ho
          have y1 : ac.tmps[29]?.getD undef = _ := hdep { on := 1, ground := .data } (by simp) rfl
          have y2 : ac.tmps[30]?.getD undef = _ := hdep { on := 2, ground := .data } (by simp) rfl
          clear hdep
          go_simp
          exact hK _ wb (Below.refl _ _) rfl
        · simp at ho
          subst ho
          have y3 : ac.tmps[31]?.getD undef = _ := hdep { on := 3, ground := .data } (by simp) rfl
          clear hdep
          go_simp
          exact hK _ wb (Below.refl _ _) rfl
        · simp at ho
          subst ho
          have y4 : ac.tmps[32]?.getD undef = _ := hdep { on := 4, ground := .data } (by simp) rfl
          clear hdep
          go_simp
          exact hK _ wb (Below.refl _ _) rfl
        · simp at ho
          subst ho
          clear hdep
          go_simp
          exact hK _ wb (Below.refl _ _) rfl
        · simp at ho
          subst ho
          clear hdep
          go_simp
          exact hK _ wb (Below.refl _ _) rfl
        · simp at ho
          subst ho
          have y7 : ac.tmps[35]?.getD undef = _ := hdep { on := 7, ground := .data } (by simp) rfl
          clear hdep
          go_simp
          exact hK _ wb (Below.refl _ _) (by show Value.int _ _ = Value.int _ _; rw [G5.out])
        · simp at ho
          subst ho
          have y6 : ac.tmps[34]?.getD undef = _ := hdep { on := 6, ground := .data } (by simp) rfl
          have y8 : ac.tmps[36]?.getD undef = _ := hdep { on := 8, ground := .data } (by simp) rfl
          clear hdep
          go_simp
          exact hK _ wb (Below.refl _ _) rfl
        · simp at ho
          subst ho
          have y9 : ac.tmps[37]?.getD undef = _ := hdep { on := 9, ground := .data } (by simp) rfl
          clear hdep
          go_simp
          exact hK _ wb (Below.refl _ _) rfl
        · simp at ho
          subst ho
          have y5 : ac.tmps[33]?.getD undef = _ := hdep { on := 5, ground := .data } (by simp) rfl
          have y10 : ac.tmps[38]?.getD undef = _ := hdep { on := 10, ground := .data } (by simp) rfl
          clear hdep
          go_simp
          exact hK _ wb (Below.refl _ _) rfl
        · simp at ho
          subst ho
          have y11 : ac.tmps[39]?.getD undef = _ := hdep { on := 11, ground := .data } (by simp) rfl
          clear hdep
          go_simp
          exact hK _ _ ((Below.refl _ _).alloc (Nat.le_refl _) _) ⟨wb.heap.size, rfl, (fun j' u hu => by have := lit_cells wb #[.string key, .int .i64 g0, .bool g1, .int .i64 g2, .string g3, .slice g4 g4l g4c, .slice g5 g5l g5c] 48 j' u hu; rwa [Addr.add_lit, Nat.zero_add] at this), hB1, by simp⟩
      case g8 =>
        intro o ac wb K' ho hA hB hG hdep hK
        obtain ⟨hB1, hB2, hB3⟩ := hB
        simp at ho
        subst ho
        have y0 : ac.tmps[28]?.getD undef = .slice al K.length cl' := hdep { on := 0, ground := .data } (by simp) rfl
        obtain ⟨sb, y1, hgc, h1, h2⟩ := hdep { on := 12, ground := .data } (by simp) rfl
        have y1 : ac.tmps[40]?.getD undef = .slice (some ⟨sb, 0, none⟩) 1 1 := y1
        have hL2 : Lies wb (fun b => b < w.heap.size ∧ b < wb.heap.size ∧ (Value.slice al K.length cl').ownBlock ≠ some b ∧ b ≠ w.heap.size) x #[.int .i64 g0, .bool g1, .int .i64 g2, .string g3, .slice g4 g4l g4c, .slice g5 g5l g5c] := ((HL2.out.bound.later (bstep HWV.out hB2 HWV.out.size)).weaken fun b hb => ⟨by have := hb.2; omega, by have := hb.2; omega, fun e => by have := hobK _ e; have := hb.2; omega, by have := hb.2; omega⟩)
        refine wp_append_ownD rfl (.tmp 28) (.tmp 40) 26 rfl (w.heap.size + 1) 48 i0 _ 7 104 Tryz.underlying26 HI0.out HZ0.out HZ1.out HZ2.out (by rfl) (by decide) (.slice al K.length cl') K.length _ (by first | exact y0 | (simp [Act.eval]; exact y0) | (go_simp)) hG.own ⟨sb, 0, none⟩ 1 1 (#[.string key, .int .i64 g0, .bool g1, .int .i64 g2, .string g3, .slice g4 g4l g4c, .slice g5 g5l g5c] : Array Value).toList (by first | exact y1 | (simp [Act.eval]; exact y1) | (go_simp)) rfl (fun j' u hu => by rw [Addr.add_lit, Nat.zero_add]; exact hgc j' u hu) (fun u hu => by
          simp at hu
          rcases hu with rfl | rfl | rfl | rfl | rfl | rfl | rfl <;> rfl) (by unfold maxLen; omega) (by omega) (by omega) ?_
        intro v5 w5 own5 hg5 hob5
        obtain ⟨a5, e5, rfl⟩ := row_formD own5
        exact hK _ w5 ⟨hg5, hB1⟩ ⟨a5, e5, rfl, hG.one hL2 hkz own5 hg5 hob5⟩
      case g9 =>
        intro o ac wb K' ho hA hB hU hK
        obtain ⟨hB1, hB2, hB3⟩ := hB
        simp at ho
        subst ho
        obtain ⟨a7, e7, y13, hO⟩ := hU 13 (by omega)
        have y13 : ac.tmps[41]?.getD undef = _ := y13
        clear hU hA
        go_simp
        exact hK _ wb ⟨a7, e7, rfl, hO, hB2, by omega⟩
      case g10 =>
        intro ac y wn hA ⟨a7, e7, hy, HOn, HBn, hsn⟩
        subst hy
        have hs : slots 14 (fun k => match k with | 14 => 4 | _ => 28 + k) = [28, 29, 30, 31, 32, 33, 34, 35, 36, 37, 38, 39, 40, 41] := by rfl
        rw [hs] at hA
        have hac := hA.act (fun t ht => by
          have h8 : t = 28 ∨ t = 29 ∨ t = 30 ∨ t = 31 ∨ t = 32 ∨ t = 33 ∨ t = 34 ∨ t = 35 ∨ t = 36 ∨ t = 37 ∨ t = 38 ∨ t = 39 ∨ t = 40 ∨ t = 41 := by simpa using ht
          rcases h8 with rfl | rfl | rfl | rfl | rfl | rfl | rfl | rfl | rfl | rfl | rfl | rfl | rfl | rfl <;> exact Nat.lt_of_lt_of_le (by decide : _ < 47) (Nat.le_refl 47))
        rw [List.foldl_cons, List.foldl_cons, List.foldl_cons, List.foldl_cons, List.foldl_cons, List.foldl_cons, List.foldl_cons, List.foldl_cons, List.foldl_cons, List.foldl_cons, List.foldl_cons, List.foldl_cons, List.foldl_cons, List.foldl_cons, List.foldl_nil] at hac
        generalize sl ac 28 = x28 at hac
        generalize sl ac 29 = x29 at hac
        generalize sl ac 30 = x30 at hac
        generalize sl ac 31 = x31 at hac
        generalize sl ac 32 = x32 at hac
        generalize sl ac 33 = x33 at hac
        generalize sl ac 34 = x34 at hac
        generalize sl ac 35 = x35 at hac
        generalize sl ac 36 = x36 at hac
        generalize sl ac 37 = x37 at hac
        generalize sl ac 38 = x38 at hac
        generalize sl ac 39 = x39 at hac
        generalize sl ac 40 = x40 at hac
        generalize sl ac 41 = x41 at hac
        clear hA hs
        subst hac
        simp only [Act.put, List.setIfInBounds_toArray, List.set_cons_succ, List.set_cons_zero]
        have hl9 : (K ++ [((key, x, #[.int .i64 g0, .bool g1, .int .i64 g2, .string g3, .slice g4 g4l g4c, .slice g5 g5l g5c]) : Q)]).length = K.length + 1 := by rw [List.length_append]; rfl
        have HKS9 := Lib.hid (HP1.out #[.int .i64 g0, .bool g1, .int .i64 g2, .string g3, .slice g4 g4l g4c, .slice g5 g5l g5c])
        generalize (K ++ [((key, x, #[.int .i64 g0, .bool g1, .int .i64 g2, .string g3, .slice g4 g4l g4c, .slice g5 g5l g5c]) : Q)]) = K9 at HOn HKS9 hl9
        have HL9 := Lib.hid hl9
        clear hl9
        go_wp2_with fail
        go_roundw
        case rel => exact ⟨i + 2, j + 1, K9, a7, e7, by have := HIJ.out; omega, by omega, by go_num, by rw [HL9.out], by rw [HL9.out, HKL.out], by rw [HL9.out]; exact HOn, HKS9, HBn.out, hsn⟩
        case measure => have := HIJ.out; simp [intOf]; omega
    · obtain rfl : j = ps.length := by omega
      have hKL := HKL.out
      obtain ⟨a9, c9, cm9, e9, hSP⟩ := HB.out.done (by rw [hKL]; omega)
      obtain ⟨rfl, rfl⟩ : al = a9 ∧ cl' = c9 := by injection e9 with e1 e2 e3; exact ⟨e1, e3⟩
      have hps : K.map strip = ps := by rw [HKS.out, List.take_length]
      rw [hps] at hSP
      have MP := Lib.hid (tMap_all hSP (by omega) wr (Below.refl _ _))
      have hij2 := HIJ0.out
      have c2 : decide ((i : Int) < 2 * (ps.length : Int)) = false := decide_eq_false (by omega)
      rw [hKL]
      have HZZ := Lib.hid hz
      clear e9 hSP hps hKL hij2 hz
      go_wp2_with (first
        | (go_at_call 71; refine MP.out.mono ?_; rintro e w5 ⟨ds, rfl, hL, hb5⟩; obtain ⟨m0, m1, m2, m3, m4, m4l, m4c, m5, m5l, m5c, rfl⟩ := hL.six; have HV5 := Lib.hid (bstep HBW.out hb5 HBW.out.size); have HL5 := Lib.hid hL; clear hb5 hL)
        | (go_at_call 37; refine (fchecked_any HL5.out HZZ.out _ (Below.refl _ _)).mono ?_; rintro e w6 ⟨rfl, hb6⟩; have HL6 := Lib.hid (HL5.out.later hb6); have HV6 := Lib.hid (bstep HV5.out hb6 HV5.out.size); obtain ⟨c0', c1', c2', c3', c4', c5'⟩ := (B0.out.later HV6.out (by omega)).six; obtain ⟨f0, f1, f2, f3, f4, f5⟩ := (TZ.out.later HV6.out (by omega)).six; clear hb6))
      have hvw := HBW.out.size
      exact ret_cells_tmp w6 w.heap.size [.int .i64 m0, .bool m1, .int .i64 m2, .string m3, .slice m4 m4l m4c, .slice m5 m5l m5c] rfl Tryz.results38 rfl rfl DD.out HU.out Tryz.sizeV ((B0.out.later HV6.out (by omega)).cells rfl) ⟨_, rfl, (HL6.out.keep (w' := setRow w6 w.heap.size 0 [.int .i64 m0, .bool m1, .int .i64 m2, .string m3, .slice m4 m4l m4c, .slice m5 m5l m5c]) (fun b hb => setRow_heap _ _ _ _ _ (by omega))).weaken fun b hb => by omega, setRow_below _ (by omega) _ _ _ (bstep HV.out HV6.out HV.out.size)⟩

end Go.Proofs.YthjdeckdklhphaaGreatDoor
