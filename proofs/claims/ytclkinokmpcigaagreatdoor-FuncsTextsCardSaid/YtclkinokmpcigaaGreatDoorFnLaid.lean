/-
  The table of functions, out of what the rows list.
-/
import Derived.Test.YtclkinokmpcigaaGreatDoorFnFind
import Derived.Lib.LaidTab
set_option linter.unusedVariables false
set_option linter.unusedSimpArgs false
namespace Go.Proofs.YtclkinokmpcigaaGreatDoor
open Go.RowKit

def fnRowL (i : Nat) : List Value := [.string (fnAt i).1, .int .i64 (fnAt i).2.1, .int .i64 (fnAt i).2.2]
theorem fn_cell_at (i r : Nat) (hi : i < 29) (hr : r < 3) : (fnRowL i)[r]? = fnCells.toList[i * 3 + r]? := by
  rcases (by omega : r = 0 ∨ r = 1 ∨ r = 2) with rfl | rfl | rfl
  · rcases (by omega : i = 0 ∨ i = 1 ∨ i = 2 ∨ i = 3 ∨ i = 4 ∨ i = 5 ∨ i = 6 ∨ i = 7 ∨ i = 8 ∨ i = 9 ∨ i = 10 ∨ i = 11 ∨ i = 12 ∨ i = 13 ∨ i = 14 ∨ i = 15 ∨ i = 16 ∨ i = 17 ∨ i = 18 ∨ i = 19 ∨ i = 20 ∨ i = 21 ∨ i = 22 ∨ i = 23 ∨ i = 24 ∨ i = 25 ∨ i = 26 ∨ i = 27 ∨ i = 28) with rfl | rfl | rfl | rfl | rfl | rfl | rfl | rfl | rfl | rfl | rfl | rfl | rfl | rfl | rfl | rfl | rfl | rfl | rfl | rfl | rfl | rfl | rfl | rfl | rfl | rfl | rfl | rfl | rfl <;> kernel_rfl
  · rcases (by omega : i = 0 ∨ i = 1 ∨ i = 2 ∨ i = 3 ∨ i = 4 ∨ i = 5 ∨ i = 6 ∨ i = 7 ∨ i = 8 ∨ i = 9 ∨ i = 10 ∨ i = 11 ∨ i = 12 ∨ i = 13 ∨ i = 14 ∨ i = 15 ∨ i = 16 ∨ i = 17 ∨ i = 18 ∨ i = 19 ∨ i = 20 ∨ i = 21 ∨ i = 22 ∨ i = 23 ∨ i = 24 ∨ i = 25 ∨ i = 26 ∨ i = 27 ∨ i = 28) with rfl | rfl | rfl | rfl | rfl | rfl | rfl | rfl | rfl | rfl | rfl | rfl | rfl | rfl | rfl | rfl | rfl | rfl | rfl | rfl | rfl | rfl | rfl | rfl | rfl | rfl | rfl | rfl | rfl <;> kernel_rfl
  · rcases (by omega : i = 0 ∨ i = 1 ∨ i = 2 ∨ i = 3 ∨ i = 4 ∨ i = 5 ∨ i = 6 ∨ i = 7 ∨ i = 8 ∨ i = 9 ∨ i = 10 ∨ i = 11 ∨ i = 12 ∨ i = 13 ∨ i = 14 ∨ i = 15 ∨ i = 16 ∨ i = 17 ∨ i = 18 ∨ i = 19 ∨ i = 20 ∨ i = 21 ∨ i = 22 ∨ i = 23 ∨ i = 24 ∨ i = 25 ∨ i = 26 ∨ i = 27 ∨ i = 28) with rfl | rfl | rfl | rfl | rfl | rfl | rfl | rfl | rfl | rfl | rfl | rfl | rfl | rfl | rfl | rfl | rfl | rfl | rfl | rfl | rfl | rfl | rfl | rfl | rfl | rfl | rfl | rfl | rfl <;> kernel_rfl
theorem fn_cells {cs : List Value} (hl : cs.length = 87) (h : ∀ i, i < 29 → (cs.drop (i * 3)).take 3 = fnRowL i) : cs = fnCells.toList := by
  apply List.ext_getElem?
  intro k
  by_cases hk : k < 87
  · have e : k = k / 3 * 3 + k % 3 := by omega
    have hr : k % 3 < 3 := Nat.mod_lt _ (by omega)
    have hi : k / 3 < 29 := by omega
    have h1 := congrArg (·[k % 3]?) (h (k / 3) hi)
    simp only [List.getElem?_take, List.getElem?_drop, if_pos hr] at h1
    rw [fn_cell_at _ _ hi hr] at h1
    rw [← e] at h1
    exact h1
  · have h2 : fnCells.toList.length = 87 := by kernel_rfl
    rw [List.getElem?_eq_none (by omega), List.getElem?_eq_none (by omega)]
set_option maxRecDepth 100000 in
theorem fn_row_cells {H : Type} {enc : TypeId × Value → H} {w : World} {base : Nat} {sp : Nat → Bool} {held : Bool} {fuel : Nat} {cs : List Value} {l : List UInt8} {a b : Int} {p : List MemPlace}
    (h : DataW.trod enc Tryz.prog w base sp held fuel 40 cs = some (.agg [.lit (.string l), .lit (.int .i64 a), .lit (.int .i64 b)], p)) : cs = [.string ⟨l.toArray⟩, .int .i64 a, .int .i64 b] := by
  cases fuel with
  | zero => simp [DataW.trod] at h
  | succ fuel =>
    simp only [DataW.trod, Tryz.underlying40] at h
    have c0 : Tryz.prog.cellsOf 40 = 3 := by kernel_rfl
    have c9 : Tryz.prog.cellsOf 9 = 1 := by kernel_rfl
    have c3 : Tryz.prog.cellsOf 3 = 1 := by kernel_rfl
    rw [c0] at h
    split at h
    · rename_i hl
      obtain ⟨xs, hm, hx⟩ := Option.map_eq_some_iff.1 h
      simp only [List.mapM_cons, List.mapM_nil, Option.bind_eq_bind, Option.bind_eq_some_iff, Option.pure_def, Option.some.injEq, c9, c3] at hm
      obtain ⟨y0, h0, r0, ⟨y1, h1, r1, ⟨y2, h2, r2, e2, e3⟩, e4⟩, e5⟩ := hm
      obtain ⟨x0, x1, x2, rfl⟩ : ∃ x0 x1 x2, cs = [x0, x1, x2] := by
        match cs, hl with
        | [x0, x1, x2], _ => exact ⟨x0, x1, x2, rfl⟩
      obtain ⟨s0, k0, rfl, _⟩ := DataW.trod_string Tryz.underlying9 h0
      obtain ⟨n1, k1, rfl, _⟩ := DataW.trod_int Tryz.underlying3 h1
      obtain ⟨n2, k2, rfl, _⟩ := DataW.trod_int Tryz.underlying3 h2
      subst e2
      subst e3
      subst e4
      subst e5
      have k0' : x0 = .string s0 := by simpa using k0
      have k1' : x1 = .int .i64 n1 := by simpa using k1
      have k2' : x2 = .int .i64 n2 := by simpa using k2
      have hx1 := congrArg Prod.fst hx
      simp only [List.map_cons, List.map_nil, DataW.agg.injEq, List.cons.injEq, DataW.lit.injEq, Lit.string.injEq, Lit.int.injEq, true_and, and_true] at hx1
      obtain ⟨e6, e7, e8⟩ := hx1
      rw [k0', k1', k2', e7, e8, ← e6]
    · cases h
/-- What the rows list of the table. -/
theorem fn_data {H : Type} : (Rows.laid_mizzen_funcs_functions : DataW H) = .agg ((List.range 29).map fun i => .agg [.lit (.string (fnAt i).1.data.toList), .lit (.int .i64 (fnAt i).2.1), .lit (.int .i64 (fnAt i).2.2)]) := by rfl
theorem fn_of_trod {H : Type} {enc : TypeId × Value → H} {w : World} {base : Nat} {sp : Nat → Bool} {held : Bool} {fuel : Nat} {cs : List Value} {p : List MemPlace}
    (h : DataW.trod enc Tryz.prog w base sp held fuel 47 cs = some (Rows.laid_mizzen_funcs_functions, p)) : cs = fnCells.toList := by
  rw [fn_data] at h
  cases fuel with
  | zero => simp [DataW.trod] at h
  | succ fuel =>
    simp only [DataW.trod, Tryz.underlying47] at h
    have c0 : Tryz.prog.cellsOf 47 = 87 := by kernel_rfl
    have c3 : Tryz.prog.cellsOf 40 = 3 := by kernel_rfl
    rw [c0, c3] at h
    split at h
    · rename_i hl
      obtain ⟨xs, hm, hx⟩ := Option.map_eq_some_iff.1 h
      have hx1 := congrArg Prod.fst hx
      simp only [DataW.agg.injEq] at hx1
      refine fn_cells hl fun i hi => ?_
      obtain ⟨b, hb, hf⟩ := Lib.mapM_at hm i i (by simp [hi])
      have h2 := congrArg (·[i]?) hx1
      simp only [List.getElem?_map, hb, Option.map_some, List.getElem?_range hi, Option.some.injEq] at h2
      obtain ⟨b1, b2⟩ := b
      simp only at h2
      subst h2
      exact fn_row_cells hf
    · cases h
theorem Tryz.gFns : Tryz.prog.globalNamed "mizzen/funcs.functions" = some 0 := by kernel_rfl
theorem Tryz.gFnsType : (Tryz.prog.globals[0]?).map (·.type) = some 47 := by kernel_rfl
theorem fn_of_laid {W : World} {x1 x2 x3 x4 x5 x6 : String × DataW Unit} {rest : List (String × DataW Unit)} (h : laidMet Tryz.prog (x1 :: x2 :: x3 :: x4 :: x5 :: x6 :: ("mizzen/funcs.functions", Rows.laid_mizzen_funcs_functions) :: rest) W) : FnTab W := by
  obtain ⟨ps, ⟨g1, t1, cs1, f1, p1, q1, hg1, ht1, hv1, hd1, ⟨g2, t2, cs2, f2, p2, q2, hg2, ht2, hv2, hd2, ⟨g3, t3, cs3, f3, p3, q3, hg3, ht3, hv3, hd3, ⟨g4, t4, cs4, f4, p4, q4, hg4, ht4, hv4, hd4, ⟨g5, t5, cs5, f5, p5, q5, hg5, ht5, hv5, hd5, ⟨g6, t6, cs6, f6, p6, q6, hg6, ht6, hv6, hd6, ⟨g, t, cs, fuel, p, q, hg, ht, hvar, hd, _, _⟩, _⟩, _⟩, _⟩, _⟩, _⟩, _⟩, _⟩ := h
  obtain rfl := Option.some.inj (Tryz.gFns.symm.trans hg)
  obtain rfl := Option.some.inj (Tryz.gFnsType.symm.trans ht)
  have e := fn_of_trod hd
  have e2 : cs = fnCells := by
    apply Array.toList_inj.1
    exact e
  subst e2
  unfold World.var? at hvar
  rw [Tryz.gFns] at hvar
  simp only [Option.bind_some] at hvar
  cases hh : W.heap[0]? with
  | none => rw [hh] at hvar; cases hvar
  | some o =>
    rw [hh] at hvar
    cases o with
    | cells c t fr =>
      have e3 : c = fnCells := by simpa using hvar
      exact ⟨t, fr, by rw [hh, e3]⟩
    | _ => cases hvar

end Go.Proofs.YtclkinokmpcigaaGreatDoor
