/-
  Package layer's change.
-/
import Derived.Test.YtfhonjjhladddaaGone
import Derived.Test.YtfhonjjhladddaaAwake3
set_option linter.unusedVariables false
set_option linter.unusedSimpArgs false
namespace Go.Proofs.Ytfhonjjhladddaa
open Go.RowKit Go.Sort

theorem ret_cells_tmp_drew {P : Program} {fn : Func} {R : Ending → World → Prop} {a : Act} {w : World} {p q : Tmp} {ty : TypeId} {d : TypeDesc} (W : World) (g : Nat) (vs : List Value) (hw : w = (setRow W g 0 vs).drew) (h : fn.results = #[.cell p ty, .tmp q]) (hdef : a.defers = []) (hp : a.tmps.getD p undef = .pointer (some ⟨g, 0, none⟩))
    (hd : (match d with | .struct _ | .array _ _ => true | _ => false) = true) (hu : P.underlying ty = some d) (hi : (P.info? ty).map (·.size) = some vs.length) (hW : ∀ i, i < vs.length → ∃ u, W.cell? ⟨g, i, none⟩ = some u)
    (hR : R (.returned (.tuple #[.agg vs.toArray, a.tmps.getD q undef])) (setRow W g 0 vs).drew) : bodyPost P fn R .ret a w := by
  subst hw
  have hc : ∀ i (hi : i < vs.toArray.size), (setRow W g 0 vs).drew.cell? ⟨g, i, none⟩ = some vs.toArray[i] := fun i hi' => by
    have := setRow_cell g vs W 0 (fun j hj => by simpa using hW j hj) i (by simpa using hi')
    simpa using this
  have hp' : a.tmps[p]?.getD undef = .pointer (some ⟨g, 0, none⟩) := by simpa using hp
  refine bodyPost_ret (v := .tuple #[.agg vs.toArray, a.tmps.getD q undef]) ?_ hdef hR
  simp [results, h, hp', asAddr, run_loadVar_cells _ g ty vs.toArray d hd hu hc (by simpa using hi)]

/-- What change hands back. -/
def ChangeIn (w : World) (o : Option T) (e : Ending) (w' : World) : Prop := ∃ x ds, e = .returned (.tuple #[.agg ds, .bool o.isSome]) ∧ Lies w' (fun b => w.heap.size ≤ b) x ds ∧ (∀ d, o = some d → x = d) ∧ Below w.heap.size w w'

set_option maxRecDepth 100000 in
set_option maxHeartbeats 1000000 in
theorem change_any {w0 : World} {R1 R2 : Nat → Prop} {y x : T} {cs ds : Array Value} (h1 : Lies w0 R1 y cs) (h2 : Lies w0 R2 x ds) (hd : ∀ w, Below w0.heap.size w0 w → Calls Try.prog 24 #[.agg cs, .agg ds] w (OverIn w (T.diff y x))) (w : World) (hw : Below w0.heap.size w0 w) :
    Calls Try.prog 50 #[.agg cs, .agg ds] w (ChangeIn w (chg y x (T.diff y x))) := by
  have HD := Lib.hid hd
  have HSame := Lib.hid (fun w hw => tSame_any h1 h2 w hw)
  have HCl := Lib.hid (tClone_any h2)
  obtain ⟨k, b, n, s, la, ll, lc, ma, ml, mc, rfl⟩ := h1.six
  obtain ⟨k', b', n', s', la', ll', lc', ma', ml', mc', rfl⟩ := h2.six
  have ky : y.kind = k := lies_kind h1
  have kx : x.kind = k' := lies_kind h2
  clear h1 h2 hd
  have h3 := Lib.hid ((((Below.refl w.heap.size w).alloc (Nat.le_refl _) (.cells #[.int .i64 k, .bool b, .int .i64 n, .string s, .slice la ll lc, .slice ma ml mc] 25)).alloc (by simp) (.cells #[.int .i64 k', .bool b', .int .i64 n', .string s', .slice la' ll' lc', .slice ma' ml' mc'] 25)).alloc (by simp; omega) (.cells #[.int .i64 0, .bool false, .int .i64 0, .string ⟨#[]⟩, .slice none 0 0, .slice none 0 0] 25))
  obtain ⟨dd, hu, hdd⟩ := Try.structV
  have DD := Lib.hid hdd
  have HU := Lib.hid hu
  clear hu hdd
  by_cases hb : k = 5 ∧ k' = 5
  · obtain ⟨rfl, rfl⟩ := hb
    have hchg : chg y x (T.diff y x) = if (T.diff y x).pairs.length = 0 then none else some (T.diff y x) := by
      unfold chg
      rw [if_pos ⟨ky, kx⟩]
    have hdm : T.diff y x = mk5 (T.diff y x).pairs := by
      obtain ⟨kk, b, n, s, l, m⟩ := x
      obtain rfl : kk = 5 := kx
      rw [diff_map y b n s l m ky, pairs5]
      rfl
    have HCH := Lib.hid hchg
    have HDM := Lib.hid hdm
    clear hchg hdm ky kx
    go_enter Try.func50, Try.ntmps50
    go_wp2_with fail
    refine (HD.out _ (bstep hw h3.out hw.size)).mono ?_
    rintro e w1 ⟨ds, rfl, hL, hb1⟩
    have hL' := hL
    rw [HDM.out] at hL'
    obtain ⟨xl, xc, xm, xmc, rfl⟩ := mk5_cells hL'
    obtain ⟨q0, q1, q2, q3⟩ := three_boxes hb1 (by simp)
    have Q2 := Lib.hid q2
    have Q3 := Lib.hid q3
    have HL := Lib.hid hL
    have hA1 := Lib.hid (bstep h3.out hb1 (by simp; omega))
    have hs1 : w.heap.size + 3 ≤ w1.heap.size := by have := hb1.size; simp at this; omega
    clear q0 q1 q2 q3 hL hL' hb1
    generalize hpl : (T.diff y x).pairs.length = ml at *
    have hA2 := Lib.hid ((Below.refl w1.heap.size w1).alloc (Nat.le_refl _) (.cells #[.int .i64 5, .bool false, .int .i64 0, .string ⟨#[]⟩, .slice xl 0 xc, .slice xm ml xmc] 25))
    have BD : Hid (BoxA (w1.alloc (.cells #[.int .i64 5, .bool false, .int .i64 0, .string ⟨#[]⟩, .slice xl 0 xc, .slice xm ml xmc] 25)) w1.heap.size (.int .i64 5) (.bool false) (.int .i64 0) (.string ⟨#[]⟩) (.slice xl 0 xc) (.slice xm ml xmc)) := BoxA.new _ _ _ _ _ _ _ _
    have HS2 : Hid ((w1.alloc (.cells #[.int .i64 5, .bool false, .int .i64 0, .string ⟨#[]⟩, .slice xl 0 xc, .slice xm ml xmc] 25)).heap.size = w1.heap.size + 1) := by show _ = _; simp
    go_wp2_with fail
    generalize hv : w1.alloc (.cells #[.int .i64 5, .bool false, .int .i64 0, .string ⟨#[]⟩, .slice xl 0 xc, .slice xm ml xmc] 25) = w2 at *
    have z2 : ∀ j, w2.cell? ⟨w.heap.size + 1 + 1, j, none⟩ = (#[.int .i64 0, .bool false, .int .i64 0, .string ⟨#[]⟩, .slice none 0 0, .slice none 0 0] : Array Value)[j]? := fun j => (hA2.out.cell (p := ⟨w.heap.size + 2, j, none⟩) (by simp only; omega)).trans (Q2.out j)
    have f2 : ∀ j, w2.frozen? ⟨w.heap.size + 1 + 1, j, none⟩ = false := fun j => (hA2.out.frozen (p := ⟨w.heap.size + 2, j, none⟩) (by simp only; omega)).trans (Q3.out j)
    have ZZ2 := Lib.hid z2
    have HL2 := Lib.hid (HL.out.later hA2.out)
    have hV2 := Lib.hid (bstep hA1.out hA2.out hA1.out.size)
    have hs2 := hA2.out.size
    by_cases hm : ml = 0
    · subst hm
      have HF : Hid (Lies (setRow w2 (w.heap.size + 2) 0 [.int .i64 5, .bool false, .int .i64 0, .string ⟨#[]⟩, .slice xl 0 xc, .slice xm 0 xmc]) (fun b => w.heap.size ≤ b) (T.diff y x) #[.int .i64 5, .bool false, .int .i64 0, .string ⟨#[]⟩, .slice xl 0 xc, .slice xm 0 xmc]) := (HL2.out.keep (fun x hx => setRow_heap _ [.int .i64 5, .bool false, .int .i64 0, .string ⟨#[]⟩, .slice xl 0 xc, .slice xm 0 xmc] _ _ _ (by simp only [World.size_alloc] at hx; omega))).weaken (fun x hx => by simp only [World.size_alloc] at hx; omega)
      have HB : Hid (Below w.heap.size w (setRow w2 (w.heap.size + 2) 0 [.int .i64 5, .bool false, .int .i64 0, .string ⟨#[]⟩, .slice xl 0 xc, .slice xm 0 xmc])) := setRow_below _ (by omega) [.int .i64 5, .bool false, .int .i64 0, .string ⟨#[]⟩, .slice xl 0 xc, .slice xm 0 xmc] _ _ hV2.out
      have HC0 : Hid (chg y x (T.diff y x) = none) := by show _ = _; rw [HCH.out]; simp
      obtain ⟨x0, x1, x2, x3, x4, x5⟩ := BD.out
      go_region
      all_goals
        go_wp2_with fail
        rw [HC0.out]
        refine ret_cells_tmp_drew w2 (w.heap.size + 2) [.int .i64 5, .bool false, .int .i64 0, .string ⟨#[]⟩, .slice xl 0 xc, .slice xm 0 xmc] rfl Try.results50 rfl rfl DD.out HU.out Try.sizeV (fun i hi => ⟨_, (ZZ2.out i).trans (Array.getElem?_eq_getElem (show i < 6 from hi))⟩) ?_
        exact ⟨T.diff y x, #[.int .i64 5, .bool false, .int .i64 0, .string ⟨#[]⟩, .slice xl 0 xc, .slice xm 0 xmc], rfl, HF.out.later (Below.refl _ _).drew, fun d hd => (by cases hd), HB.out.drew⟩
    · have hm1 : (0 : Int) < (ml : Int) := by omega
      have hm2 : 0 < ml := by omega
      have HF : Hid (Lies (setRow w2 (w.heap.size + 2) 0 [.int .i64 5, .bool false, .int .i64 0, .string ⟨#[]⟩, .slice xl 0 xc, .slice xm ml xmc]) (fun b => w.heap.size ≤ b) (T.diff y x) #[.int .i64 5, .bool false, .int .i64 0, .string ⟨#[]⟩, .slice xl 0 xc, .slice xm ml xmc]) := (HL2.out.keep (fun x hx => setRow_heap _ [.int .i64 5, .bool false, .int .i64 0, .string ⟨#[]⟩, .slice xl 0 xc, .slice xm ml xmc] _ _ _ (by simp only [World.size_alloc] at hx; omega))).weaken (fun x hx => by simp only [World.size_alloc] at hx; omega)
      have HB : Hid (Below w.heap.size w (setRow w2 (w.heap.size + 2) 0 [.int .i64 5, .bool false, .int .i64 0, .string ⟨#[]⟩, .slice xl 0 xc, .slice xm ml xmc])) := setRow_below _ (by omega) [.int .i64 5, .bool false, .int .i64 0, .string ⟨#[]⟩, .slice xl 0 xc, .slice xm ml xmc] _ _ hV2.out
      obtain ⟨x0, x1, x2, x3, x4, x5⟩ := BD.out
      go_region
      all_goals
        go_wp2_with fail
        rw [HCH.out]
        rw [if_neg hm]
        refine ret_cells_tmp_drew w2 (w.heap.size + 2) [.int .i64 5, .bool false, .int .i64 0, .string ⟨#[]⟩, .slice xl 0 xc, .slice xm ml xmc] rfl Try.results50 rfl rfl DD.out HU.out Try.sizeV (fun i hi => ⟨_, (ZZ2.out i).trans (Array.getElem?_eq_getElem (show i < 6 from hi))⟩) ?_
        exact ⟨T.diff y x, #[.int .i64 5, .bool false, .int .i64 0, .string ⟨#[]⟩, .slice xl 0 xc, .slice xm ml xmc], rfl, HF.out.later (Below.refl _ _).drew, fun d hd => (by injection hd), HB.out.drew⟩
  · have hchg : chg y x (T.diff y x) = if T.cmp y x = 0 then none else some x := by
      unfold chg
      rw [if_neg (by rw [ky, kx]; exact hb)]
    have HCH := Lib.hid hchg
    clear hchg ky kx
    by_cases hk : k = 5
    · have hk' : k' ≠ 5 := fun e => hb ⟨hk, e⟩
      have g1 : (k == 5) = true := by simp [hk]
      have g2 : (k' == 5) = false := by simp [hk']
      clear hk hk' hb
      go_enter Try.func50, Try.ntmps50
      go_wp2_with fail
      refine (HSame.out _ (bstep hw h3.out hw.size)).mono ?_
      rintro e w1 ⟨rfl, hb1⟩
      obtain ⟨q0, q1, q2, q3⟩ := three_boxes hb1 (by simp)
      have Q1 := Lib.hid q1
      have Q2 := Lib.hid q2
      have Q3 := Lib.hid q3
      have hA1 := Lib.hid (bstep h3.out hb1 (by simp; omega))
      have hs1 : w.heap.size + 3 ≤ w1.heap.size := by have := hb1.size; simp at this; omega
      have z1 : ∀ j, w1.cell? ⟨w.heap.size + 1 + 1, j, none⟩ = (#[.int .i64 0, .bool false, .int .i64 0, .string ⟨#[]⟩, .slice none 0 0, .slice none 0 0] : Array Value)[j]? := Q2.out
      have f1 : ∀ j, w1.frozen? ⟨w.heap.size + 1 + 1, j, none⟩ = false := Q3.out
      by_cases hc : T.cmp y x = 0
      · have c1 : (T.cmp y x == 0) = true := by simp [hc]
        rw [c1]
        have HC0 := Lib.hid hc
        clear q0 q1 q2 q3 hb1 hc c1
        go_wp2_with fail
        rw [HCH.out, if_pos HC0.out]
        refine ret_cells_tmp w1 (w.heap.size + 2) [.int .i64 0, .bool false, .int .i64 0, .string ⟨#[]⟩, .slice none 0 0, .slice none 0 0] rfl Try.results50 rfl rfl DD.out HU.out Try.sizeV (fun i hi => ⟨_, (Q2.out i).trans (Array.getElem?_eq_getElem (show i < 6 from hi))⟩) ?_
        exact ⟨T.nil, _, rfl, nil_lies _ _, fun d hd => (by cases hd), setRow_below _ (by omega) [.int .i64 0, .bool false, .int .i64 0, .string ⟨#[]⟩, .slice none 0 0, .slice none 0 0] _ _ hA1.out⟩
      · have c1 : (T.cmp y x == 0) = false := by simp [hc]
        rw [c1]
        have HC0 := Lib.hid hc
        have xb0 : w1.cell? ⟨w.heap.size + 1, 0, none⟩ = some (.int .i64 k') := Q1.out 0
        have xb1 : w1.cell? ⟨w.heap.size + 1, 1, none⟩ = some (.bool b') := Q1.out 1
        have xb2 : w1.cell? ⟨w.heap.size + 1, 2, none⟩ = some (.int .i64 n') := Q1.out 2
        have xb3 : w1.cell? ⟨w.heap.size + 1, 3, none⟩ = some (.string s') := Q1.out 3
        have xb4 : w1.cell? ⟨w.heap.size + 1, 4, none⟩ = some (.slice la' ll' lc') := Q1.out 4
        have xb5 : w1.cell? ⟨w.heap.size + 1, 5, none⟩ = some (.slice ma' ml' mc') := Q1.out 5
        clear q0 q1 q2 q3 hb1 hc c1
        go_wp2_with fail
        refine (HCl.out _ (bstep hw hA1.out hw.size)).mono ?_
        rintro e w2 ⟨ds, rfl, hL, hb2⟩
        obtain ⟨d0, d1, d2, d3, d4, d4l, d4c, d5, d5l, d5c, rfl⟩ := hL.six
        have HL := Lib.hid hL
        have hA2 := Lib.hid (bstep hA1.out hb2 hA1.out.size)
        have z2 : ∀ j, w2.cell? ⟨w.heap.size + 1 + 1, j, none⟩ = (#[.int .i64 0, .bool false, .int .i64 0, .string ⟨#[]⟩, .slice none 0 0, .slice none 0 0] : Array Value)[j]? := fun j => (hb2.cell (p := ⟨w.heap.size + 2, j, none⟩) (by simp only; omega)).trans (Q2.out j)
        have f2 : ∀ j, w2.frozen? ⟨w.heap.size + 1 + 1, j, none⟩ = false := fun j => (hb2.frozen (p := ⟨w.heap.size + 2, j, none⟩) (by simp only; omega)).trans (Q3.out j)
        have ZZ2 := Lib.hid z2
        have hs2 := hb2.size
        clear z1 f1 hL hb2 xb0 xb1 xb2 xb3 xb4 xb5
        go_wp2_with fail
        rw [HCH.out, if_neg HC0.out]
        refine ret_cells_tmp w2 (w.heap.size + 2) [.int .i64 d0, .bool d1, .int .i64 d2, .string d3, .slice d4 d4l d4c, .slice d5 d5l d5c] rfl Try.results50 rfl rfl DD.out HU.out Try.sizeV (fun i hi => ⟨_, (ZZ2.out i).trans (Array.getElem?_eq_getElem (show i < 6 from hi))⟩) ?_
        exact ⟨x, _, rfl, (HL.out.keep (fun x hx => setRow_heap _ [.int .i64 d0, .bool d1, .int .i64 d2, .string d3, .slice d4 d4l d4c, .slice d5 d5l d5c] _ _ _ (by omega))).weaken (fun x hx => by omega), fun d hd => (by injection hd), setRow_below _ (by omega) [.int .i64 d0, .bool d1, .int .i64 d2, .string d3, .slice d4 d4l d4c, .slice d5 d5l d5c] _ _ hA2.out⟩
    · have g1 : (k == 5) = false := by simp [hk]
      clear hk hb
      go_enter Try.func50, Try.ntmps50
      go_wp2_with fail
      refine (HSame.out _ (bstep hw h3.out hw.size)).mono ?_
      rintro e w1 ⟨rfl, hb1⟩
      obtain ⟨q0, q1, q2, q3⟩ := three_boxes hb1 (by simp)
      have Q1 := Lib.hid q1
      have Q2 := Lib.hid q2
      have Q3 := Lib.hid q3
      have hA1 := Lib.hid (bstep h3.out hb1 (by simp; omega))
      have hs1 : w.heap.size + 3 ≤ w1.heap.size := by have := hb1.size; simp at this; omega
      have z1 : ∀ j, w1.cell? ⟨w.heap.size + 1 + 1, j, none⟩ = (#[.int .i64 0, .bool false, .int .i64 0, .string ⟨#[]⟩, .slice none 0 0, .slice none 0 0] : Array Value)[j]? := Q2.out
      have f1 : ∀ j, w1.frozen? ⟨w.heap.size + 1 + 1, j, none⟩ = false := Q3.out
      by_cases hc : T.cmp y x = 0
      · have c1 : (T.cmp y x == 0) = true := by simp [hc]
        rw [c1]
        have HC0 := Lib.hid hc
        clear q0 q1 q2 q3 hb1 hc c1
        go_wp2_with fail
        rw [HCH.out, if_pos HC0.out]
        refine ret_cells_tmp w1 (w.heap.size + 2) [.int .i64 0, .bool false, .int .i64 0, .string ⟨#[]⟩, .slice none 0 0, .slice none 0 0] rfl Try.results50 rfl rfl DD.out HU.out Try.sizeV (fun i hi => ⟨_, (Q2.out i).trans (Array.getElem?_eq_getElem (show i < 6 from hi))⟩) ?_
        exact ⟨T.nil, _, rfl, nil_lies _ _, fun d hd => (by cases hd), setRow_below _ (by omega) [.int .i64 0, .bool false, .int .i64 0, .string ⟨#[]⟩, .slice none 0 0, .slice none 0 0] _ _ hA1.out⟩
      · have c1 : (T.cmp y x == 0) = false := by simp [hc]
        rw [c1]
        have HC0 := Lib.hid hc
        have xb0 : w1.cell? ⟨w.heap.size + 1, 0, none⟩ = some (.int .i64 k') := Q1.out 0
        have xb1 : w1.cell? ⟨w.heap.size + 1, 1, none⟩ = some (.bool b') := Q1.out 1
        have xb2 : w1.cell? ⟨w.heap.size + 1, 2, none⟩ = some (.int .i64 n') := Q1.out 2
        have xb3 : w1.cell? ⟨w.heap.size + 1, 3, none⟩ = some (.string s') := Q1.out 3
        have xb4 : w1.cell? ⟨w.heap.size + 1, 4, none⟩ = some (.slice la' ll' lc') := Q1.out 4
        have xb5 : w1.cell? ⟨w.heap.size + 1, 5, none⟩ = some (.slice ma' ml' mc') := Q1.out 5
        clear q0 q1 q2 q3 hb1 hc c1
        go_wp2_with fail
        refine (HCl.out _ (bstep hw hA1.out hw.size)).mono ?_
        rintro e w2 ⟨ds, rfl, hL, hb2⟩
        obtain ⟨d0, d1, d2, d3, d4, d4l, d4c, d5, d5l, d5c, rfl⟩ := hL.six
        have HL := Lib.hid hL
        have hA2 := Lib.hid (bstep hA1.out hb2 hA1.out.size)
        have z2 : ∀ j, w2.cell? ⟨w.heap.size + 1 + 1, j, none⟩ = (#[.int .i64 0, .bool false, .int .i64 0, .string ⟨#[]⟩, .slice none 0 0, .slice none 0 0] : Array Value)[j]? := fun j => (hb2.cell (p := ⟨w.heap.size + 2, j, none⟩) (by simp only; omega)).trans (Q2.out j)
        have f2 : ∀ j, w2.frozen? ⟨w.heap.size + 1 + 1, j, none⟩ = false := fun j => (hb2.frozen (p := ⟨w.heap.size + 2, j, none⟩) (by simp only; omega)).trans (Q3.out j)
        have ZZ2 := Lib.hid z2
        have hs2 := hb2.size
        clear z1 f1 hL hb2 xb0 xb1 xb2 xb3 xb4 xb5
        go_wp2_with fail
        rw [HCH.out, if_neg HC0.out]
        refine ret_cells_tmp w2 (w.heap.size + 2) [.int .i64 d0, .bool d1, .int .i64 d2, .string d3, .slice d4 d4l d4c, .slice d5 d5l d5c] rfl Try.results50 rfl rfl DD.out HU.out Try.sizeV (fun i hi => ⟨_, (ZZ2.out i).trans (Array.getElem?_eq_getElem (show i < 6 from hi))⟩) ?_
        exact ⟨x, _, rfl, (HL.out.keep (fun x hx => setRow_heap _ [.int .i64 d0, .bool d1, .int .i64 d2, .string d3, .slice d4 d4l d4c, .slice d5 d5l d5c] _ _ _ (by omega))).weaken (fun x hx => by omega), fun d hd => (by injection hd), setRow_below _ (by omega) [.int .i64 d0, .bool d1, .int .i64 d2, .string d3, .slice d4 d4l d4c, .slice d5 d5l d5c] _ _ hA2.out⟩

end Go.Proofs.Ytfhonjjhladddaa
