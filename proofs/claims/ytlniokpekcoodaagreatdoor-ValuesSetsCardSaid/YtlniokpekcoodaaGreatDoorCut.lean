/-
  Package layer's cut.
-/
import Derived.Test.YtlniokpekcoodaaGreatDoorMap
import Derived.Test.YtlniokpekcoodaaGreatDoorPathCM
import Derived.Deep.RegionHeld3
set_option linter.unusedVariables false
set_option linter.unusedSimpArgs false
namespace Go.Proofs.YtlniokpekcoodaaGreatDoor
open Go.RowKit Go.Sort

set_option maxHeartbeats 400000 in
/-- The closure in cut: is the key that one, or above? -/
theorem cut1_any (p : ByteArray × T) (k : Int) (b : Bool) (n : Int) (s : ByteArray) (la : Option Addr) (ll lc : Nat) (ma : Option Addr) (ml mc : Nat) (key : ByteArray) (kb : Nat) (w : World) (hk : w.cell? ⟨kb, 0, none⟩ = some (.string key)) :
    Calls Tryz.prog 136 #[.agg #[.string p.1, .int .i64 k, .bool b, .int .i64 n, .string s, .slice la ll lc, .slice ma ml mc], .pointer (some ⟨kb, 0, none⟩)] w fun e w' => e = .returned (.bool (!ltS p.1 key)) ∧ Below w.heap.size w w' := by
  have hlt := World.block_lt_of_cell? _ _ hk
  have hne : kb ≠ w.heap.size := by simp at hlt; omega
  have HB := Lib.hid ((Below.refl w.heap.size w).alloc (Nat.le_refl _) (.cells #[.string p.1, .int .i64 k, .bool b, .int .i64 n, .string s, .slice la ll lc, .slice ma ml mc] 51))
  have hk2 : (w.alloc (.cells #[.string p.1, .int .i64 k, .bool b, .int .i64 n, .string s, .slice la ll lc, .slice ma ml mc] 51)).cell? ⟨kb, 0, none⟩ = some (.string key) := by rw [World.cell?_alloc_lt _ _ _ hlt]; exact hk
  go_enter Tryz.func136, Tryz.ntmps136
  go_wp2_with fail
  go_ret
  exact ⟨ret_bool rfl, HB.out⟩

/-- The place of the first of that key, or above; -1: there is none. -/
def cutIx (ps : List (ByteArray × T)) (key : ByteArray) : Int := match ps.findIdx? fun p => !ltS p.1 key with | some i => (i : Int) | none => -1
theorem cutIx_none (ps : List (ByteArray × T)) (key : ByteArray) (h : ∀ i (hi : i < ps.length), ltS ps[i].1 key = true) : cutIx ps key = -1 := by
  unfold cutIx
  rw [List.findIdx?_eq_none_iff.2 fun p hp => by obtain ⟨i, hi, rfl⟩ := List.getElem_of_mem hp; simpa using h i hi]
theorem cutIx_hit (ps : List (ByteArray × T)) (key : ByteArray) (j : Nat) (hj : j < ps.length) (h : ∀ i (hi : i < ps.length), i < j → ltS ps[i].1 key = true) (he : ltS ps[j].1 key = false) : cutIx ps key = j := by
  unfold cutIx
  have : (ps.findIdx? fun p => !ltS p.1 key) = some j := by
    rw [List.findIdx?_eq_some_iff_getElem]
    exact ⟨hj, by simp [he], fun i hi => by simpa using h i (by omega) hi⟩
  rw [this]

set_option maxHeartbeats 400000 in
theorem indexCut_any {w0 : World} {R : Nat → Prop} {ps : List (ByteArray × T)} {a : Option Addr} {cap : Nat} {cm : Nat → Array Value} (h : SliceP w0 R ps a cap cm) (key : ByteArray) (kb : Nat) (w : World) (hw : Below w0.heap.size w0 w) (hk : w.cell? ⟨kb, 0, none⟩ = some (.string key)) :
    Calls Tryz.prog 50 #[.slice a ps.length cap, .func (Fn.func 136) #[] #[.pointer (some ⟨kb, 0, none⟩)]] w fun e w' => e = .returned (.int .i64 (cutIx ps key)) ∧ Below w.heap.size w w' := by
  have hl := h.hdr
  have ll := hl.le
  have lx := hl.big
  have KN := Lib.hid (cutIx_none ps key)
  have KH := Lib.hid (cutIx_hit ps key)
  go_enter Tryz.func50, Tryz.ntmps50
  go_wp2_with fail
  go_loopw [8] (fun vi wr => ∃ j : Nat, j ≤ ps.length ∧ vi = .int .i64 j ∧ Hid (∀ i (hi : i < ps.length), i < j → ltS ps[i].1 key = true) ∧ Below w.heap.size w wr) (fun vi _ => ps.length - (intOf vi).toNat)
  case atStart => exact ⟨0, by omega, rfl, fun i _ hi => absurd hi (Nat.not_lt_zero _), Below.refl _ _⟩
  case round =>
    obtain ⟨j, hj, rfl, h0, hbw⟩ := hrel
    have hbw2 := bstep hw hbw hw.size
    have hk2 := cells_frame hbw hk
    by_cases hjl : j < ps.length
    · have KJ := Lib.hid (KH.out j hjl h0.out)
      obtain ⟨bl, ol, c0, c1, c2, c3, c4, c4l, c4c, c5, c5l, c5c, rfl, hc, r0, r1, r2, r3, r4, r5, r6⟩ := openM hbw2 hl h.rows hjl (h.each j hjl)
      clear hc
      cases he : ltS ps[j].1 key with
      | false =>
        have HR := Lib.hid (KJ.out he)
        have P1 := cut1_any ps[j] c0 c1 c2 c3 c4 c4l c4c c5 c5l c5c key kb
        rw [he] at P1
        have P1 := Lib.hid P1
        clear he
        go_wp2_with fail
        refine (P1.out _ hk2).mono ?_
        rintro e w1 ⟨rfl, hb1⟩
        have hb2 := bstep hbw hb1 hbw.size
        go_wp2_with fail
        go_ret
        exact ⟨ret_int HR.out.symm, hb2⟩
      | true =>
        have HR := Lib.hid he
        have P1 := cut1_any ps[j] c0 c1 c2 c3 c4 c4l c4c c5 c5l c5c key kb
        rw [he] at P1
        have P1 := Lib.hid P1
        clear he
        go_wp2_with fail
        refine (P1.out _ hk2).mono ?_
        rintro e w1 ⟨rfl, hb1⟩
        have hb2 := bstep hbw hb1 hbw.size
        go_wp2_with fail
        go_roundw
        case rel => exact ⟨j + 1, by omega, by go_num, fun i hi hij => by
          by_cases e : i = j
          · subst e; exact HR.out
          · exact h0.out i hi (by omega), hb2⟩
        case measure => simp [intOf]; omega
    · obtain rfl : j = ps.length := by omega
      have HR := Lib.hid (KN.out fun i hi => h0.out i hi hi)
      go_wp2_with fail
      go_ret
      exact ⟨ret_int HR.out.symm, hbw⟩

theorem SliceP.front {w : World} {R : Nat → Prop} {ps : List (ByteArray × T)} {a : Option Addr} {cap : Nat} {cm : Nat → Array Value} (h : SliceP w R ps a cap cm) (i : Nat) (hi : i ≤ ps.length) : SliceP w R (ps.take i) a cap cm := by
  have e : (ps.take i).length = i := by simp; omega
  refine ⟨⟨by have := h.hdr.le; omega, by have := h.hdr.big; rw [e]; omega, h.hdr.none, fun hp => h.hdr.some (by omega), h.hdr.max⟩, fun j hj bl ol ea => ?_, fun j hj => ?_, fun j hj => ?_⟩
  · have := h.rows j (by omega) bl ol ea
    simpa using this
  · have := h.keys j (by omega)
    simpa using this
  · have := h.each j (by omega)
    simpa using this
theorem SliceP.back {w : World} {R : Nat → Prop} {ps : List (ByteArray × T)} {a : Option Addr} {cap : Nat} {cm : Nat → Array Value} (h : SliceP w R ps a cap cm) (i : Nat) (hi : i ≤ ps.length) : SliceP w R (ps.drop i) (if cap = i then a else a.map (fun x => x.add (i * 7))) (cap - i) (fun j => cm (i + j)) := by
  have e : (ps.drop i).length = ps.length - i := by simp
  have h1 := h.hdr.le
  refine ⟨⟨by omega, by have := h.hdr.big; rw [e]; omega, fun hn => ?_, fun hp => ?_, by have := h.hdr.max; omega⟩, fun j hj bl ol ea => ?_, fun j hj => ?_, fun j hj => ?_⟩
  · by_cases hc : cap = i
    · omega
    · rw [if_neg hc] at hn
      have := h.hdr.none (by simpa using hn)
      omega
  · obtain ⟨b, o, ea, hR⟩ := h.hdr.some (by omega)
    rw [if_neg (by omega), ea, Option.map_some, Addr.add_lit]
    exact ⟨b, o + i * 7, rfl, hR⟩
  · obtain ⟨b, o, ea', hR⟩ := h.hdr.some (by omega)
    rw [if_neg (by omega), ea', Option.map_some, Addr.add_lit] at ea
    have e2 : (⟨b, o + i * 7, none⟩ : Addr) = ⟨bl, ol, none⟩ := Option.some.inj ea
    obtain ⟨rfl, rfl⟩ : b = bl ∧ o + i * 7 = ol := by simpa using e2
    have := h.rows (i + j) (by omega) b o ea'
    rw [show o + i * 7 + j * 7 = o + (i + j) * 7 by omega]
    simpa using this
  · have := h.keys (i + j) (by omega)
    simpa using this
  · have := h.each (i + j) (by omega)
    simpa using this


/-- Where a key cuts. -/
theorem cut_place (ps : Prs) (key : ByteArray) : ∃ i : Nat, i ≤ ps.length ∧ ((cutIx ps key = -1 ∧ i = ps.length) ∨ (cutIx ps key = i ∧ i < ps.length)) ∧
    cutB key ps = ps.take i ∧ ((∃ h : i < ps.length, ps[i].1 = key ∧ cutH key ps = ps[i].2 ∧ cutA key ps = ps.drop (i + 1)) ∨ ((∀ h : i < ps.length, ps[i].1 ≠ key) ∧ cutH key ps = T.nil ∧ cutA key ps = ps.drop i)) := by
  cases hx : ps.findIdx? fun p => !ltS p.1 key with
  | none =>
    have h0 := List.findIdx?_eq_none_iff.1 hx
    refine ⟨ps.length, Nat.le_refl _, .inl ⟨by unfold cutIx; rw [hx], rfl⟩, cut_at key ps.length ps (Nat.le_refl _) (fun j h _ => by simpa using h0 ps[j] (List.getElem_mem h)) (fun h => absurd h (Nat.lt_irrefl _))⟩
  | some i =>
    obtain ⟨h1, h2, h3⟩ := List.findIdx?_eq_some_iff_getElem.1 hx
    refine ⟨i, by omega, .inr ⟨by unfold cutIx; rw [hx], h1⟩, cut_at key i ps (by omega) (fun j h hj => by simpa using h3 j hj) (fun h => by simpa using h2)⟩

theorem ret_mid {P : Program} {fn : Func} {R : Ending → World → Prop} {a : Act} {w : World} {p q1 q2 : Tmp} {ty : TypeId} {d : TypeDesc} (W : World) (g : Nat) (vs : List Value) (hw : w = setRow W g 0 vs) (h : fn.results = #[.tmp q1, .cell p ty, .tmp q2]) (hdef : a.defers = []) (hp : a.tmps.getD p undef = .pointer (some ⟨g, 0, none⟩))
    (hd : (match d with | .struct _ | .array _ _ => true | _ => false) = true) (hu : P.underlying ty = some d) (hi : (P.info? ty).map (·.size) = some vs.length) (hW : ∀ i, i < vs.length → ∃ u, W.cell? ⟨g, i, none⟩ = some u)
    (hR : R (.returned (.tuple #[a.tmps.getD q1 undef, .agg vs.toArray, a.tmps.getD q2 undef])) (setRow W g 0 vs)) : bodyPost P fn R .ret a w := by
  subst hw
  have hc : ∀ i (hi : i < vs.toArray.size), (setRow W g 0 vs).cell? ⟨g, i, none⟩ = some vs.toArray[i] := fun i hi' => by
    have := setRow_cell g vs W 0 (fun j hj => by simpa using hW j hj) i (by simpa using hi')
    simpa using this
  have hp' : a.tmps[p]?.getD undef = .pointer (some ⟨g, 0, none⟩) := by simpa using hp
  refine bodyPost_ret (v := .tuple #[a.tmps.getD q1 undef, .agg vs.toArray, a.tmps.getD q2 undef]) ?_ hdef hR
  simp [results, h, hp', asAddr, run_loadVar_cells _ g ty vs.toArray d hd hu hc (by simpa using hi)]

/-- What cut hands back. -/
def CutIn (w0 w : World) (R : Nat → Prop) (ps : Prs) (key : ByteArray) (e : Ending) (w' : World) : Prop :=
  ∃ (a : Option Addr) (c : Nat) (cm : Nat → Array Value) (hs : Array Value) (a3 : Option Addr) (c3 : Nat) (cm3 : Nat → Array Value), e = .returned (.tuple #[.slice a (cutB key ps).length c, .agg hs, .slice a3 (cutA key ps).length c3]) ∧
    SliceP w0 R (cutB key ps) a c cm ∧ Lies w0 R (cutH key ps) hs ∧ SliceP w0 R (cutA key ps) a3 c3 cm3 ∧ Below w.heap.size w w'

theorem empty_sliceC (w : World) (R : Nat → Prop) : SliceP w R [] none 0 (fun _ => #[]) := ⟨⟨by simp, by simp, fun _ => rfl, fun hp => absurd hp (by simp), by omega⟩, fun i hi => absurd hi (by simp), fun i hi => absurd hi (by simp), fun i hi => absurd hi (by simp)⟩

set_option maxRecDepth 100000 in
set_option maxHeartbeats 4000000 in
theorem cut_any {w0 : World} {R : Nat → Prop} {ps : Prs} {a : Option Addr} {cap : Nat} {cm : Nat → Array Value} (h : SliceP w0 R ps a cap cm) (key : ByteArray) (w : World) (hw : Below w0.heap.size w0 w) :
    Calls Tryz.prog 109 #[.slice a ps.length cap, .string key] w (CutIn w0 w R ps key) := by
  have HI := Lib.hid (indexCut_any h key)
  obtain ⟨i, hi, hix, hB, hH⟩ := cut_place ps key
  have HPS := Lib.hid h
  have HBB := Lib.hid hB
  have HHH := Lib.hid hH
  have hle := h.hdr.le
  have hmax := h.hdr.max
  have hA0 := Lib.hid (((Below.refl w.heap.size w).alloc (Nat.le_refl _) (.cells #[.string key] 9)).alloc (by simp) (.cells #[.int .i64 0, .bool false, .int .i64 0, .string ⟨#[]⟩, .slice none 0 0, .slice none 0 0] 25))
  have k0 : ((w.alloc (.cells #[.string key] 9)).alloc (.cells #[.int .i64 0, .bool false, .int .i64 0, .string ⟨#[]⟩, .slice none 0 0, .slice none 0 0] 25)).cell? ⟨w.heap.size, 0, none⟩ = some (.string key) := by
    rw [World.cell?_alloc_lt _ _ _ (by simp), World.cell?_alloc_new]; rfl
  have HK0 := Lib.hid k0
  clear h hB hH k0
  go_enter Tryz.func109, Tryz.ntmps109
  go_wp2_with fail
  refine (HI.out w.heap.size _ (bstep hw hA0.out hw.size) HK0.out).mono ?_
  rintro e w1 ⟨rfl, hb1⟩
  have hA1 := Lib.hid (bstep hA0.out hb1 (by simp; omega))
  have hs1 : w.heap.size + 2 ≤ w1.heap.size := by have := hb1.size; simpa using this
  have k1 : w1.cell? ⟨w.heap.size, 0, none⟩ = some (.string key) := cells_frame hb1 HK0.out
  have e1 : w.heap.size + 1 = (w.alloc (.cells #[.string key] 9)).heap.size := by simp
  have Z1 : Hid (∀ j, w1.cell? ⟨w.heap.size + 1, j, none⟩ = (#[.int .i64 0, .bool false, .int .i64 0, .string ⟨#[]⟩, .slice none 0 0, .slice none 0 0] : Array Value)[j]?) := fun j => by
    rw [hb1.cell (p := ⟨w.heap.size + 1, j, none⟩) (by simp), e1, World.cell?_alloc_new]
  have Z2 : Hid (∀ j, w1.frozen? ⟨w.heap.size + 1, j, none⟩ = false) := fun j => by
    rw [hb1.frozen (p := ⟨w.heap.size + 1, j, none⟩) (by simp), e1, World.frozen?_alloc_new]
  have x0 : w1.cell? ⟨w.heap.size + 1, 0, none⟩ = some (.int .i64 0) := Z1.out 0
  have x1 : w1.cell? ⟨w.heap.size + 1, 1, none⟩ = some (.bool false) := Z1.out 1
  have x2 : w1.cell? ⟨w.heap.size + 1, 2, none⟩ = some (.int .i64 0) := Z1.out 2
  have x3 : w1.cell? ⟨w.heap.size + 1, 3, none⟩ = some (.string ⟨#[]⟩) := Z1.out 3
  have x4 : w1.cell? ⟨w.heap.size + 1, 4, none⟩ = some (.slice none 0 0) := Z1.out 4
  have x5 : w1.cell? ⟨w.heap.size + 1, 5, none⟩ = some (.slice none 0 0) := Z1.out 5
  have f1 := Z2.out
  clear hb1 e1
  rcases hix with ⟨hx, hi2⟩ | ⟨hx, hi2⟩
  · rw [hx]
    have hE1 : Hid (cutB key ps = ps ∧ cutH key ps = T.nil ∧ cutA key ps = []) := by
      refine ⟨by rw [HBB.out, hi2, List.take_length], ?_⟩
      rcases HHH.out with ⟨h1, _⟩ | ⟨_, h2, h3⟩
      · omega
      · exact ⟨h2, by rw [h3, hi2, List.drop_length]⟩
    clear hx hi2 hi
    go_wp2_with fail
    obtain ⟨dd, hu, hdd⟩ := Tryz.structV
    refine ret_mid w1 (w.heap.size + 1) [.int .i64 0, .bool false, .int .i64 0, .string ⟨#[]⟩, .slice none 0 0, .slice none 0 0] rfl Tryz.results109 rfl rfl hdd hu Tryz.sizeV (fun i hi => ⟨_, (Z1.out i).trans (Array.getElem?_eq_getElem (show i < 6 from hi))⟩) ?_
    refine ⟨a, cap, cm, #[.int .i64 0, .bool false, .int .i64 0, .string ⟨#[]⟩, .slice none 0 0, .slice none 0 0], none, 0, fun _ => #[], ?_, ?_, ?_, ?_, setRow_below _ (by omega) _ _ _ hA1.out⟩
    · rw [hE1.out.1, hE1.out.2.2]; rfl
    · rw [hE1.out.1]; exact HPS.out
    · rw [hE1.out.2.1]; exact nil_lies _ _
    · rw [hE1.out.2.2]; exact empty_sliceC _ _
  · rw [hx]
    have hneg : decide ((i : Int) < 0) = false := by simp
    obtain ⟨bl, ol, c0, c1, c2, c3, c4, c4l, c4c, c5, c5l, c5c, rfl, hc, r0, r1, r2, r3, r4, r5, r6⟩ := openM (bstep hw hA1.out hw.size) HPS.out.hdr HPS.out.rows hi2 (HPS.out.each i hi2)
    have hEi := HPS.out.each i hi2
    rw [hc] at hEi
    have HEI := Lib.hid hEi
    have g1 : (0 : Int) ≤ (i : Int) := by omega
    have g2 : (i : Int) ≤ (ps.length : Int) := by omega
    have g3 : (i : Int) < (ps.length : Int) := by omega
    have g4 : (i : Int) ≤ (cap : Int) := by omega
    have g5 : IntKind.i64.wrap ((i : Int) + 1) = (i : Int) + 1 := IntWalk.i64_in _ (by omega)
    clear hx hc hEi
    have hci : ¬ cap = i := by omega
    by_cases hk : ps[i].1 = key
    · have f2 : (ps[i].1.toList == key.toList) = true := by rw [hk]; simp
      have HK := Lib.hid hk
      have hlt0 : bl ≠ w.heap.size + 1 := by
        have := Row.lt (HPS.out.rows i hi2 bl ol rfl) (by rw [Array.size_append]; exact Nat.lt_of_lt_of_le (by decide : 0 < 1) (Nat.le_add_right 1 _))
        have := hw.size
        omega
      clear hk
      by_cases hc1 : cap = i + 1
      · subst hc1
        go_wp2_with fail
        go_quiet (fail)
        go_wp2_with fail
        have SKC : ∀ (wx : World) (v0 v1 v2 v3 v4 v5 : Value) (j : Nat), ((((((wx.setCell ⟨w.heap.size + 1, 0, none⟩ v0).setCell ⟨w.heap.size + 1, 1, none⟩ v1).setCell ⟨w.heap.size + 1, 2, none⟩ v2).setCell ⟨w.heap.size + 1, 3, none⟩ v3).setCell ⟨w.heap.size + 1, 4, none⟩ v4).setCell ⟨w.heap.size + 1, 5, none⟩ v5).cell? ⟨bl, j, none⟩ = wx.cell? ⟨bl, j, none⟩ := fun wx v0 v1 v2 v3 v4 v5 j => by
          rw [World.cell?_setCell_other _ _ _ _ (by intro e; have := congrArg Addr.block e; simp only at this; omega), World.cell?_setCell_other _ _ _ _ (by intro e; have := congrArg Addr.block e; simp only at this; omega), World.cell?_setCell_other _ _ _ _ (by intro e; have := congrArg Addr.block e; simp only at this; omega), World.cell?_setCell_other _ _ _ _ (by intro e; have := congrArg Addr.block e; simp only at this; omega), World.cell?_setCell_other _ _ _ _ (by intro e; have := congrArg Addr.block e; simp only at this; omega), World.cell?_setCell_other _ _ _ _ (by intro e; have := congrArg Addr.block e; simp only at this; omega)]
        have ga : (i : Int) ≤ (i : Int) + 1 := by omega
        have gb : (0 : Int) ≤ (i : Int) + 1 := by omega
        have gc : (i : Int) + 1 ≤ (ps.length : Int) := by omega
        have gd : (ps.length : Int) ≤ (i : Int) + 1 := by have := HPS.out.hdr.le; omega
        go_region_held3 (fun wx : World => wx.cell? ⟨bl, ol + i * 7 + 1, none⟩ = some (.int .i64 c0) ∧ wx.cell? ⟨bl, ol + i * 7 + 2, none⟩ = some (.bool c1) ∧ wx.cell? ⟨bl, ol + i * 7 + 3, none⟩ = some (.int .i64 c2) ∧ wx.cell? ⟨bl, ol + i * 7 + 4, none⟩ = some (.string c3) ∧ wx.cell? ⟨bl, ol + i * 7 + 5, none⟩ = some (.slice c4 c4l c4c) ∧ wx.cell? ⟨bl, ol + i * 7 + 6, none⟩ = some (.slice c5 c5l c5c)) (go_keep) (first | fail)
        all_goals
          have hTK : cutB key ps = ps.take i ∧ cutH key ps = ps[i].2 ∧ cutA key ps = ps.drop (i + 1) := by
            refine ⟨HBB.out, ?_⟩
            rcases HHH.out with ⟨_, _, h⟩ | ⟨h, _⟩
            · exact h
            · exact absurd HK.out (h hi2)
          have l1 : (ps.take i).length = i := by rw [List.length_take]; omega
          have l2 : (ps.drop (i + 1)).length = ps.length - (i + 1) := List.length_drop
          have hD := HPS.out.back (i + 1) (by omega)
          rw [if_pos rfl, Nat.sub_self] at hD
          have HD := Lib.hid hD
          have HTK := Lib.hid hTK
          clear hTK SKC hD
          go_wp2_with fail
          obtain ⟨dd, hu, hdd⟩ := Tryz.structV
          refine ret_mid _ (w.heap.size + 1) [.int .i64 c0, .bool c1, .int .i64 c2, .string c3, .slice c4 c4l c4c, .slice c5 c5l c5c] rfl Tryz.results109 rfl rfl hdd hu Tryz.sizeV (fun i hi => ⟨_, (Z1.out i).trans (Array.getElem?_eq_getElem (show i < 6 from hi))⟩) ?_
          refine ⟨some ⟨bl, ol, none⟩, i + 1, cm, #[.int .i64 c0, .bool c1, .int .i64 c2, .string c3, .slice c4 c4l c4c, .slice c5 c5l c5c], some ⟨bl, ol, none⟩, 0, (fun j => cm (i + 1 + j)), ?_, ?_, ?_, ?_, setRow_below _ (by omega) _ _ _ (bdrewN hA1.out _)⟩
          · rw [HTK.out.1, HTK.out.2.2, l1, l2, show ps.length - (i + 1) = 0 by omega]; rfl
          · rw [HTK.out.1]; exact HPS.out.front i hi
          · rw [HTK.out.2.1]; exact HEI.out
          · rw [HTK.out.2.2]; exact HD.out
      · go_wp2_with fail
        go_quiet (fail)
        go_wp2_with fail
        have SKC : ∀ (wx : World) (v0 v1 v2 v3 v4 v5 : Value) (j : Nat), ((((((wx.setCell ⟨w.heap.size + 1, 0, none⟩ v0).setCell ⟨w.heap.size + 1, 1, none⟩ v1).setCell ⟨w.heap.size + 1, 2, none⟩ v2).setCell ⟨w.heap.size + 1, 3, none⟩ v3).setCell ⟨w.heap.size + 1, 4, none⟩ v4).setCell ⟨w.heap.size + 1, 5, none⟩ v5).cell? ⟨bl, j, none⟩ = wx.cell? ⟨bl, j, none⟩ := fun wx v0 v1 v2 v3 v4 v5 j => by
          rw [World.cell?_setCell_other _ _ _ _ (by intro e; have := congrArg Addr.block e; simp only at this; omega), World.cell?_setCell_other _ _ _ _ (by intro e; have := congrArg Addr.block e; simp only at this; omega), World.cell?_setCell_other _ _ _ _ (by intro e; have := congrArg Addr.block e; simp only at this; omega), World.cell?_setCell_other _ _ _ _ (by intro e; have := congrArg Addr.block e; simp only at this; omega), World.cell?_setCell_other _ _ _ _ (by intro e; have := congrArg Addr.block e; simp only at this; omega), World.cell?_setCell_other _ _ _ _ (by intro e; have := congrArg Addr.block e; simp only at this; omega)]
        have gb : (0 : Int) ≤ (i : Int) + 1 := by omega
        have gc : (i : Int) + 1 ≤ (ps.length : Int) := by omega
        have gd : (ps.length : Int) ≤ (cap : Int) := by have := HPS.out.hdr.le; omega
        have ge : (i : Int) + 1 ≤ (cap : Int) := by omega
        go_region_held3 (fun wx : World => wx.cell? ⟨bl, ol + i * 7 + 1, none⟩ = some (.int .i64 c0) ∧ wx.cell? ⟨bl, ol + i * 7 + 2, none⟩ = some (.bool c1) ∧ wx.cell? ⟨bl, ol + i * 7 + 3, none⟩ = some (.int .i64 c2) ∧ wx.cell? ⟨bl, ol + i * 7 + 4, none⟩ = some (.string c3) ∧ wx.cell? ⟨bl, ol + i * 7 + 5, none⟩ = some (.slice c4 c4l c4c) ∧ wx.cell? ⟨bl, ol + i * 7 + 6, none⟩ = some (.slice c5 c5l c5c)) (go_keep) (first | fail)
        all_goals
          have hTK : cutB key ps = ps.take i ∧ cutH key ps = ps[i].2 ∧ cutA key ps = ps.drop (i + 1) := by
            refine ⟨HBB.out, ?_⟩
            rcases HHH.out with ⟨_, _, h⟩ | ⟨h, _⟩
            · exact h
            · exact absurd HK.out (h hi2)
          have l1 : (ps.take i).length = i := by rw [List.length_take]; omega
          have l2 : (ps.drop (i + 1)).length = ps.length - (i + 1) := List.length_drop
          have hD := HPS.out.back (i + 1) (by omega)
          rw [if_neg hc1, Option.map_some, Addr.add_lit] at hD
          have HD := Lib.hid hD
          have HTK := Lib.hid hTK
          clear hTK SKC hD
          go_wp2_with fail
          obtain ⟨dd, hu, hdd⟩ := Tryz.structV
          refine ret_mid _ (w.heap.size + 1) [.int .i64 c0, .bool c1, .int .i64 c2, .string c3, .slice c4 c4l c4c, .slice c5 c5l c5c] rfl Tryz.results109 rfl rfl hdd hu Tryz.sizeV (fun i hi => ⟨_, (Z1.out i).trans (Array.getElem?_eq_getElem (show i < 6 from hi))⟩) ?_
          refine ⟨some ⟨bl, ol, none⟩, cap, cm, #[.int .i64 c0, .bool c1, .int .i64 c2, .string c3, .slice c4 c4l c4c, .slice c5 c5l c5c], some ⟨bl, ol + (i + 1) * 7, none⟩, cap - (i + 1), (fun j => cm (i + 1 + j)), ?_, ?_, ?_, ?_, setRow_below _ (by omega) _ _ _ (bdrewN hA1.out _)⟩
          · rw [HTK.out.1, HTK.out.2.2, l1, l2]; rfl
          · rw [HTK.out.1]; exact HPS.out.front i hi
          · rw [HTK.out.2.1]; exact HEI.out
          · rw [HTK.out.2.2]; exact HD.out
    · have f2 := str_ne hk
      have HK := Lib.hid hk
      clear hk
      go_wp2_with fail
      go_quiet (fail)
      go_wp2_with fail
      go_region_held3 (fun wx : World => True) (trivial) (first | fail)
      have hTK : cutB key ps = ps.take i ∧ cutH key ps = T.nil ∧ cutA key ps = ps.drop i := by
        refine ⟨HBB.out, ?_⟩
        rcases HHH.out with ⟨_, h, _⟩ | ⟨_, h⟩
        · exact absurd h HK.out
        · exact h
      have l1 : (ps.take i).length = i := by rw [List.length_take]; omega
      have l2 : (ps.drop i).length = ps.length - i := List.length_drop
      have HD := HPS.out.back i (by omega)
      rw [if_neg hci, Option.map_some, Addr.add_lit] at HD
      have HTK := Lib.hid hTK
      clear hTK
      go_wp2_with fail
      obtain ⟨dd, hu, hdd⟩ := Tryz.structV
      refine ret_mid _ (w.heap.size + 1) [.int .i64 0, .bool false, .int .i64 0, .string ⟨#[]⟩, .slice none 0 0, .slice none 0 0] rfl Tryz.results109 rfl rfl hdd hu Tryz.sizeV (fun i hi => ⟨_, (Z1.out i).trans (Array.getElem?_eq_getElem (show i < 6 from hi))⟩) ?_
      refine ⟨some ⟨bl, ol, none⟩, cap, cm, #[.int .i64 0, .bool false, .int .i64 0, .string ⟨#[]⟩, .slice none 0 0, .slice none 0 0], some ⟨bl, ol + i * 7, none⟩, cap - i, (fun j => cm (i + j)), ?_, ?_, ?_, ?_, setRow_below _ (by omega) _ _ _ (bdrewN hA1.out _)⟩
      · rw [HTK.out.1, HTK.out.2.2, l1, l2]; rfl
      · rw [HTK.out.1]; exact HPS.out.front i hi
      · rw [HTK.out.2.1]; exact nil_lies _ _
      · rw [HTK.out.2.2]; exact HD

end Go.Proofs.YtlniokpekcoodaaGreatDoor
