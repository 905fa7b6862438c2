/-
  The table of functions, out of what the rows list.
-/
import Derived.Test.YthjdeckdklhphaaGreatDoorAwakeM
import Derived.Lib.LaidTab
set_option linter.unusedVariables false
set_option linter.unusedSimpArgs false
namespace Go.Proofs.YthjdeckdklhphaaGreatDoor
open Go.RowKit

def fnRowL (i : Nat) : List Value := [.string (fnAt i).1, .int .i64 (fnAt i).2.1, .int .i64 (fnAt i).2.2]
theorem fn_cell_at (i r : Nat) (hi : i < 29) (hr : r < 3) : (fnRowL i)[r]? = fnCells.toList[i * 3 + r]? := by
  rcases (by omega : r = 0 ∨ r = 1 ∨ r = 2) with rfl | rfl | rfl
  · rcases (by omega : i = 0 ∨ i = 1 ∨ i = 2 ∨ i = 3 ∨ i = 4 ∨ i = 5 ∨ i = 6 ∨ i = 7 ∨ i = 8 ∨ i = 9 ∨ i = 10 ∨ i = 11 ∨ i = 12 ∨ i = 13 ∨ i = 14 ∨ i = 15 ∨ i = 16 ∨ i = 17 ∨ i = 18 ∨ i = 19 ∨ i = 20 ∨ i = 21 ∨ i = 22 ∨ i = 23 ∨ i = 24 ∨ i = 25 ∨ i = 26 ∨ i = 27 ∨ i = 28) with rfl | rfl | rfl | rfl | rfl | rfl | rfl | rfl | rfl | rfl | rfl | rfl | rfl | rfl | rfl | rfl | rfl | rfl | rfl | rfl | rfl | rfl | rfl | rfl | rfl | rfl | rfl | rfl | rfl <;> kernel_rfl
  · rcases (by omega : i = 0 ∨ i = 1 ∨ i = 2 ∨ i = 3 ∨ i = 4 ∨ i = 5 ∨ i = 6 ∨ i = 7 ∨ i = 8 ∨ i = 9 ∨ i = 10 ∨ i = 11 ∨ i = 12 ∨ i = 13 ∨ i = 14 ∨ i = 15 ∨ i = 16 ∨ i = 17 ∨ i = 18 ∨ i = 19 ∨ i = 20 ∨ i = 21 ∨ i = 22 ∨ i = 23 ∨ i = 24 ∨ i = 25 ∨ i = 26 ∨ i = 27 ∨ i = 28) with rfl | rfl | rfl | rfl | rfl | rfl | rfl | rfl | rfl | rfl | rfl | rfl | rfl | rfl | rfl | rfl | rfl | rfl | rfl | rfl | rfl | rfl | rfl | rfl | rfl | rfl | rfl | rfl | rfl <;> kernel_rfl
  · rcases (by omega : i = 0 ∨ i = 1 ∨ i = 2 ∨ i = 3 ∨ i = 4 ∨ i = 5 ∨ i = 6 ∨ i = 7 ∨ i = 8 ∨ i = 9 ∨ i = 10 ∨ i = 11 ∨ i = 12 ∨ i = 13 ∨ i = 14 ∨ i = 15 ∨ i = 16 ∨ i = 17 ∨ i = 18 ∨ i = 19 ∨ i = 20 ∨ i = 21 ∨ i = 22 ∨ i = 23 ∨ i = 24 ∨ i = 25 ∨ i = 26 ∨ i = 27 ∨ i = 28) with rfl | rfl | rfl | rfl | rfl | rfl | rfl | rfl | rfl | rfl | rfl | rfl | rfl | rfl | rfl | rfl | rfl | rfl | rfl | rfl | rfl | rfl | rfl | rfl | rfl | rfl | rfl | rfl | rfl <;> kernel_rfl
theorem fn_cells {cs : List Value} (hl : cs.length = 87) (h : ∀ i, i < 29 → (cs.drop (i * 3)).take 3 = fnRowL i) : cs = fnCells.toList := by
  apply List.ext_getElem?
  intro k
  by_cases hk : k < 87
  · have e : k = k / 3 * 3 + k % 3 := by omega
    have hr : k % 3 < 3 := Nat.mod_lt _ (by omega)
    have hi : k / 3 < 29 := by omega
    have h1 := congrArg (·[k % 3]?) (h (k / 3) hi)
    simp only [List.getElem?_take, List.getElem?_drop, if_pos hr] at h1
    rw [fn_cell_at _ _ hi hr] at h1
    rw [← e] at h1
    exact h1
  · have h2 : fnCells.toList.length = 87 := by kernel_rfl
    rw [List.getElem?_eq_none (by omega), List.getElem?_eq_none (by omega)]
set_option maxRecDepth 100000 in
theorem fn_row_cells {H : Type} {enc : TypeId × Value → H} {w : World} {base : Nat} {sp : Nat → Bool} {held : Bool} {fuel : Nat} {cs : List Value} {l : List UInt8} {a b : Int} {p : List MemPlace}
    (h : DataW.trod enc Tryz.prog w base sp held fuel 43 cs = some (.agg [.lit (.string l), .lit (.int .i64 a), .lit (.int .i64 b)], p)) : cs = [.string ⟨l.toArray⟩, .int .i64 a, .int .i64 b] := by
  cases fuel with
  | zero => simp [DataW.trod] at h
  | succ fuel =>
    simp only [DataW.trod, Tryz.underlying43] at h
    have c0 : Tryz.prog.cellsOf 43 = 3 := by kernel_rfl
    have c9 : Tryz.prog.cellsOf 9 = 1 := by kernel_rfl
    have c3 : Tryz.prog.cellsOf 3 = 1 := by kernel_rfl
    rw [c0] at h
    split at h
    · rename_i hl
      obtain ⟨xs, hm, hx⟩ := Option.map_eq_some_iff.1 h
      simp only [List.mapM_cons, List.mapM_nil, Option.bind_eq_bind, Option.bind_eq_some_iff, Option.pure_def, Option.some.injEq, c9, c3] at hm
      obtain ⟨y0, h0, r0, ⟨y1, h1, r1, ⟨y2, h2, r2, e2, e3⟩, e4⟩, e5⟩ := hm
      obtain ⟨x0, x1, x2, rfl⟩ : ∃ x0 x1 x2, cs = [x0, x1, x2] := by
        match cs, hl with
        | [x0, x1, x2], _ => exact ⟨x0, x1, x2, rfl⟩
      obtain ⟨s0, k0, rfl, _⟩ := DataW.trod_string Tryz.underlying9 h0
      obtain ⟨n1, k1, rfl, _⟩ := DataW.trod_int Tryz.underlying3 h1
      obtain ⟨n2, k2, rfl, _⟩ := DataW.trod_int Tryz.underlying3 h2
      subst e2
      subst e3
      subst e4
      subst e5
      have k0' : x0 = .string s0 := by simpa using k0
      have k1' : x1 = .int .i64 n1 := by simpa using k1
      have k2' : x2 = .int .i64 n2 := by simpa using k2
      have hx1 := congrArg Prod.fst hx
      simp only [List.map_cons, List.map_nil, DataW.agg.injEq, List.cons.injEq, DataW.lit.injEq, Lit.string.injEq, Lit.int.injEq, true_and, and_true] at hx1
      obtain ⟨e6, e7, e8⟩ := hx1
      rw [k0', k1', k2', e7, e8, ← e6]
    · cases h
/-- What the rows list of the table. -/
theorem fn_data {H : Type} : (Rows.laid_mizzen_funcs_functions : DataW H) = .agg ((List.range 29).map fun i => .agg [.lit (.string (fnAt i).1.data.toList), .lit (.int .i64 (fnAt i).2.1), .lit (.int .i64 (fnAt i).2.2)]) := by rfl
theorem fn_of_trod {H : Type} {enc : TypeId × Value → H} {w : World} {base : Nat} {sp : Nat → Bool} {held : Bool} {fuel : Nat} {cs : List Value} {p : List MemPlace}
    (h : DataW.trod enc Tryz.prog w base sp held fuel 51 cs = some (Rows.laid_mizzen_funcs_functions, p)) : cs = fnCells.toList := by
  rw [fn_data] at h
  cases fuel with
  | zero => simp [DataW.trod] at h
  | succ fuel =>
    simp only [DataW.trod, Tryz.underlying51] at h
    have c0 : Tryz.prog.cellsOf 51 = 87 := by kernel_rfl
    have c3 : Tryz.prog.cellsOf 43 = 3 := by kernel_rfl
    rw [c0, c3] at h
    split at h
    · rename_i hl
      obtain ⟨xs, hm, hx⟩ := Option.map_eq_some_iff.1 h
      have hx1 := congrArg Prod.fst hx
      simp only [DataW.agg.injEq] at hx1
      refine fn_cells hl fun i hi => ?_
      obtain ⟨b, hb, hf⟩ := Lib.mapM_at hm i i (by simp [hi])
      have h2 := congrArg (·[i]?) hx1
      simp only [List.getElem?_map, hb, Option.map_some, List.getElem?_range hi, Option.some.injEq] at h2
      obtain ⟨b1, b2⟩ := b
      simp only at h2
      subst h2
      exact fn_row_cells hf
    · cases h
theorem Tryz.gFns : Tryz.prog.globalNamed "mizzen/funcs.functions" = some 0 := by kernel_rfl
theorem Tryz.gFnsType : (Tryz.prog.globals[0]?).map (·.type) = some 51 := by kernel_rfl
theorem fn_of_laid {W : World} {x1 x2 x3 x4 x5 x6 : String × DataW Unit} {rest : List (String × DataW Unit)} (h : laidMet Tryz.prog (x1 :: x2 :: x3 :: x4 :: x5 :: x6 :: ("mizzen/funcs.functions", Rows.laid_mizzen_funcs_functions) :: rest) W) : FnTab W := by
  obtain ⟨ps, ⟨g1, t1, cs1, f1, p1, q1, hg1, ht1, hv1, hd1, ⟨g2, t2, cs2, f2, p2, q2, hg2, ht2, hv2, hd2, ⟨g3, t3, cs3, f3, p3, q3, hg3, ht3, hv3, hd3, ⟨g4, t4, cs4, f4, p4, q4, hg4, ht4, hv4, hd4, ⟨g5, t5, cs5, f5, p5, q5, hg5, ht5, hv5, hd5, ⟨g6, t6, cs6, f6, p6, q6, hg6, ht6, hv6, hd6, ⟨g, t, cs, fuel, p, q, hg, ht, hvar, hd, _, _⟩, _⟩, _⟩, _⟩, _⟩, _⟩, _⟩, _⟩ := h
  obtain rfl := Option.some.inj (Tryz.gFns.symm.trans hg)
  obtain rfl := Option.some.inj (Tryz.gFnsType.symm.trans ht)
  have e := fn_of_trod hd
  have e2 : cs = fnCells := by
    apply Array.toList_inj.1
    exact e
  subst e2
  unfold World.var? at hvar
  rw [Tryz.gFns] at hvar
  simp only [Option.bind_some] at hvar
  cases hh : W.heap[0]? with
  | none => rw [hh] at hvar; cases hvar
  | some o =>
    rw [hh] at hvar
    cases o with
    | cells c t fr =>
      have e3 : c = fnCells := by simpa using hvar
      exact ⟨t, fr, by rw [hh, e3]⟩
    | _ => cases hvar

end Go.Proofs.YthjdeckdklhphaaGreatDoor

/-
  Package funcs' Call, of a function that there is, with as many arguments as it takes.
-/
set_option linter.unusedVariables false
set_option linter.unusedSimpArgs false
namespace Go.Proofs.YthjdeckdklhphaaGreatDoor
open Go.RowKit

abbrev sixV (k : Int) (b : Bool) (n : Int) (s : ByteArray) (la : Option Addr) (ll lc : Nat) (ma : Option Addr) (ml mc : Nat) : Array Value := #[.int .i64 k, .bool b, .int .i64 n, .string s, .slice la ll lc, .slice ma ml mc]
/-- What answer hands back: a value and an error; a value that is nothing, where the error isn't 0. -/
def AnsIn (P : Array Value → Int → World → Prop) (e : Ending) (w w' : World) : Prop := ∃ k b n s la ll lc ma ml mc c, e = .returned (.tuple #[.agg (sixV k b n s la ll lc ma ml mc), .int .i64 c]) ∧ (c = 0 ∧ s.size ≤ 65536 ∨ c ≠ 0 ∧ sixV k b n s la ll lc ma ml mc = zeroV) ∧ P (sixV k b n s la ll lc ma ml mc) c w' ∧ Below w.heap.size w w'

set_option maxRecDepth 100000 in
set_option maxHeartbeats 1000000 in
theorem fCall_any (name : ByteArray) (k : Nat) (hk : k < 29) (he : (fnAt k).1 = name) (hn : ∀ i, i < k → (fnAt i).1 ≠ name) (sa : Option Addr) (len sc : Nat) (hlo : (fnAt k).2.1 ≤ (len : Int)) (hhi : (len : Int) ≤ (fnAt k).2.2)
    (P : Array Value → Int → World → Prop) (w : World) (mono : ∀ ds c w1 w2, w1.heap.size ≤ w2.heap.size → (∀ b, b ≠ w.heap.size → b < w1.heap.size → w2.heap[b]? = w1.heap[b]?) → P ds c w1 → P ds c w2) (hw : FnTab w)
    (H : ∀ w1, Below w.heap.size w w1 → w.heap.size < w1.heap.size → Calls Tryz.prog 16 #[.string name, .slice sa len sc] w1 fun e w' => AnsIn P e w1 w') :
    Calls Tryz.prog 6 #[.string name, .slice sa len sc] w fun e w' => ∃ ds c, e = .returned (.tuple #[.agg ds, .int .i64 c]) ∧ P ds c w' ∧ Below w.heap.size w w' := by
  obtain ⟨dd, hu, hdd⟩ := Tryz.structV
  have DD := Lib.hid hdd
  have HU := Lib.hid hu
  clear hdd hu
  have hb1 := (Below.refl w.heap.size w).alloc (Nat.le_refl _) (.cells zeroV 28)
  have FI := Lib.hid (ffind_any name k hk he hn (w.alloc (.cells zeroV 28)) (hw.later hb1))
  have es : (w.alloc (.cells zeroV 28)).heap.size = w.heap.size + 1 := by simp
  have B1 := Lib.hid (Box6.new w zeroV 28)
  have T1 := Lib.hid (Thaw.new w zeroV 28)
  have MO := Lib.hid mono
  have HH := Lib.hid H
  have HB1 := Lib.hid hb1
  have ES := Lib.hid es
  have hlo' : decide ((len : Int) < (fnAt k).2.1) = false := by simp; omega
  have hhi' : decide ((fnAt k).2.2 < (len : Int)) = false := by simp; omega
  rw [fnRow] at FI
  clear hb1 es mono H hlo hhi he hn hw
  generalize (fnAt k).2.1 = lo at *
  generalize (fnAt k).2.2 = hi at *
  generalize (fnAt k).1 = nm at *
  go_enter Tryz.func6, Tryz.ntmps6
  go_upto_region 1 with fail
  generalize (w.alloc (.cells zeroV 28)) = v at *
  go_upto_region 6 with (go_at_call 15; refine FI.out.mono ?_; rintro e w1 ⟨rfl, hb⟩; have HB2 := Lib.hid hb; clear hb)
  have hv1 := HB1.out
  have hb3 : Below w.heap.size w (w1.alloc (.cells #[.string nm, .int .i64 lo, .int .i64 hi] 43)) := (bstep HB1.out HB2.out HB1.out.size).alloc ((bstep HB1.out HB2.out HB1.out.size).size) _
  have HB3 := Lib.hid hb3
  have HBV : Hid (Below v.heap.size v (w1.alloc (.cells #[.string nm, .int .i64 lo, .int .i64 hi] 43))) := HB2.out.alloc HB2.out.size _
  have HS3 : Hid (w.heap.size < (w1.alloc (.cells #[.string nm, .int .i64 lo, .int .i64 hi] 43)).heap.size) := by
    have h1 := HBV.out.size
    have h2 := ES.out
    show _ < _
    omega
  clear hv1 hb3
  go_upto_region 7 with (go_at_call 16; refine (HH.out _ HB3.out HS3.out).mono ?_; rintro e w2 ⟨k0, b0, n0, s0, la, ll, lc, ma, ml, mc, c, rfl, hc, hP, hb⟩; have HB4 := Lib.hid hb; have HP := Lib.hid hP; have HC := Lib.hid hc; clear hb hP hc)
  have hba : Below v.heap.size v (w2.alloc (.cells (sixV k0 b0 n0 s0 la ll lc ma ml mc) 28)) := (bstep HBV.out HB4.out HBV.out.size).alloc ((bstep HBV.out HB4.out HBV.out.size).size) _
  have hvr : w.heap.size < v.heap.size := by rw [ES.out]; omega
  obtain ⟨c0, c1, c2, c3, c4, c5⟩ := (B1.out.later hba hvr).six
  obtain ⟨f0, f1, f2, f3, f4, f5⟩ := (T1.out.later hba hvr).six
  have hca := (B1.out.later hba hvr).cells rfl
  have HCA := Lib.hid hca
  have hbz : Below w.heap.size w (w2.alloc (.cells (sixV k0 b0 n0 s0 la ll lc ma ml mc) 28)) := bstep HB1.out hba HB1.out.size
  have HBZ := Lib.hid hbz
  have hPa : ∀ vs : List Value, P (sixV k0 b0 n0 s0 la ll lc ma ml mc) c (setRow (w2.alloc (.cells (sixV k0 b0 n0 s0 la ll lc ma ml mc) 28)) w.heap.size 0 vs) := fun vs => MO.out _ c w2 _ (by rw [setRow_size]; simp) (fun b hb hlt => (setRow_heap _ _ _ _ _ hb).trans (Below.heap_alloc _ _ _ hlt)) HP.out
  have HPA := Lib.hid hPa
  clear hba hca hbz hPa HP
  rcases HC.out with ⟨rfl, hs⟩ | ⟨hc, hz⟩
  · have hs' : decide (65536 < (s0.size : Int)) = false := by simp; omega
    clear HC
    go_wp2_with fail
    exact ret_cells_tmp (w2.alloc (.cells (sixV k0 b0 n0 s0 la ll lc ma ml mc) 28)) w.heap.size (sixV k0 b0 n0 s0 la ll lc ma ml mc).toList rfl Tryz.results6 rfl rfl DD.out HU.out Tryz.sizeV HCA.out ⟨_, _, rfl, HPA.out _, setRow_below _ (Nat.le_refl _) _ _ _ HBZ.out⟩
  · have hc' : (c == 0) = false := by rw [beq_eq_false_iff_ne]; exact hc
    have hc2 : (c != 0) = true := by rw [bne_iff_ne]; exact hc
    have HZ := Lib.hid hz
    clear HC hz hc
    go_wp2_with fail
    have hP2 : P zeroV c (setRow (w2.alloc (.cells (sixV k0 b0 n0 s0 la ll lc ma ml mc) 28)) w.heap.size 0 zeroV.toList) := by
      have h := HPA.out zeroV.toList
      rw [HZ.out] at h ⊢
      exact h
    exact ret_cells_tmp (w2.alloc (.cells (sixV k0 b0 n0 s0 la ll lc ma ml mc) 28)) w.heap.size zeroV.toList rfl Tryz.results6 rfl rfl DD.out HU.out Tryz.sizeV HCA.out ⟨_, _, rfl, hP2, setRow_below _ (Nat.le_refl _) _ _ _ HBZ.out⟩

end Go.Proofs.YthjdeckdklhphaaGreatDoor
