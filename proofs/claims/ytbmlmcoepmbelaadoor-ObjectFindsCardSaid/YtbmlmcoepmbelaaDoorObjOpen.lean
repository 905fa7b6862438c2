/-
  An ID as an argument; the table of ranks out of what the rows list.
-/
import Derived.Test.YtbmlmcoepmbelaaDoorObjK
import Derived.Test.YtbmlmcoepmbelaaDoorOpenM
import Derived.Lib.LaidTab
set_option linter.unusedVariables false
set_option linter.unusedSimpArgs false
namespace Go.Proofs.YtbmlmcoepmbelaaDoor
open Go.ChangeShapes Go.WideShapes Go.ChangeAt Go.RowKit

theorem Tryd.cellsID : Tryd.prog.cellsOf 29 = 3 := by kernel_rfl
theorem Tryd.cellsS1 : Tryd.prog.cellsOf 9 = 1 := by kernel_rfl
theorem list3 {α : Type} {l : List α} (h : l.length = 3) : ∃ a b c, l = [a, b, c] := by
  match l, h with
  | [a, b, c], _ => exact ⟨a, b, c, rfl⟩

set_option maxRecDepth 100000 in
theorem str_of_trod {H : Type} {enc : TypeId × Value → H} {w : World} {sp : Nat → Bool} {base fuel : Nat} {held : Bool} {c : Value} {y : DataW H × List MemPlace} (h : DataW.trod enc Tryd.prog w base sp held fuel 9 [c] = some y) (hs : SmallW Tryd.prog 9 y.1) :
    ∃ s : ByteArray, c = .string s ∧ s.size ≤ 140737488355328 := by
  obtain ⟨s, e, ex, _⟩ := DataW.trod_string Tryd.underlying9 h
  refine ⟨s, (List.cons.inj e).1, ?_⟩
  have ed : y.1 = .lit (.string s.data.toList) := by rw [ex]
  rw [ed] at hs
  have h1 := small_string hs
  rw [reach_47] at h1
  have h2 : s.size = s.data.toList.length := rfl
  omega

set_option maxRecDepth 100000 in
theorem id_of_trod {H : Type} {enc : TypeId × Value → H} {w : World} {sp : Nat → Bool} {base fuel : Nat} {held : Bool} {cs : List Value} {x : DataW H × List MemPlace} (h : DataW.trod enc Tryd.prog w base sp held fuel 29 cs = some x) (hs : SmallW Tryd.prog 29 x.1) :
    ∃ k p n : ByteArray, cs = [.string k, .string p, .string n] ∧ k.size ≤ 140737488355328 ∧ p.size ≤ 140737488355328 ∧ n.size ≤ 140737488355328 := by
  obtain ⟨xs, m, rfl, rfl, hlen, hxl, hf⟩ := DataW.trod_struct Tryd.underlying29 h
  rw [Tryd.cellsID] at hlen
  obtain ⟨c0, c1, c2, rfl⟩ := list3 hlen
  obtain ⟨x0, x1, x2, rfl⟩ := list3 hxl
  have f0 : DataW.trod enc Tryd.prog w base sp held m 9 (([c0, c1, c2].drop 0).take (Tryd.prog.cellsOf 9)) = some x0 := hf 0 _ rfl
  have f1 : DataW.trod enc Tryd.prog w base sp held m 9 (([c0, c1, c2].drop 1).take (Tryd.prog.cellsOf 9)) = some x1 := hf 1 _ rfl
  have f2 : DataW.trod enc Tryd.prog w base sp held m 9 (([c0, c1, c2].drop 2).take (Tryd.prog.cellsOf 9)) = some x2 := hf 2 _ rfl
  rw [Tryd.cellsS1] at f0 f1 f2
  simp only [List.drop_zero, List.drop_succ_cons, List.take_succ_cons, List.take_zero] at f0 f1 f2
  have s0 : SmallW Tryd.prog 9 x0.1 := small_agg Tryd.underlying29 hs 0 rfl rfl
  have s1 : SmallW Tryd.prog 9 x1.1 := small_agg Tryd.underlying29 hs 1 rfl rfl
  have s2 : SmallW Tryd.prog 9 x2.1 := small_agg Tryd.underlying29 hs 2 rfl rfl
  obtain ⟨k, rfl, hk⟩ := str_of_trod f0 s0
  obtain ⟨p, rfl, hp⟩ := str_of_trod f1 s1
  obtain ⟨n, rfl, hn⟩ := str_of_trod f2 s2
  exact ⟨k, p, n, rfl, hk, hp, hn⟩

set_option maxRecDepth 100000 in
theorem open_id {H : Type} {enc : TypeId × Value → H} {W : World} {sp : Nat → Bool} {base : Nat} {held : Bool} {v : Value} {d : DataW H} {ps : List MemPlace} {r : Reach} {b0 : Nat} (hval : Value.okWide Tryd.prog W r b0 29 v)
    (h : DataW.Trod enc Tryd.prog W base sp held 29 v d ps) (hs : SmallW Tryd.prog 29 d) : ∃ k p n : ByteArray, v = .agg #[.string k, .string p, .string n] ∧ k.size ≤ 140737488355328 ∧ p.size ≤ 140737488355328 ∧ n.size ≤ 140737488355328 := by
  obtain ⟨cs, rfl, _⟩ := okWide_struct Tryd.underlying29 hval
  obtain ⟨fuel, hf⟩ := h
  obtain ⟨k, p, n, e, h1, h2, h3⟩ := id_of_trod hf hs
  have e2 : cs.toList = [.string k, .string p, .string n] := e
  exact ⟨k, p, n, by rw [← e2, Array.toArray_toList], h1, h2, h3⟩

set_option maxRecDepth 100000 in
theorem again_id {H : Type} {enc : TypeId × Value → H} {W W' : World} {v : Value} {d : DataW H} {ps : List MemPlace} (h : DataW.Trod enc Tryd.prog W 0 (fun _ => true) true 29 v d ps) (hb : Below W.heap.size W W') (hlt : ∀ x ∈ ps, x.block < W.heap.size) :
    DataW.Trod enc Tryd.prog W' 0 (fun b => decide (b < W.heap.size)) true 29 v d ps := Below.trod Tryd.laidOut (by kernel_rfl) (of_decide_eq_true (by kernel_rfl)) h hb hlt

/-! ### The table -/

theorem rank_data {H : Type} : (Rows.laid_mizzen_object_ranked : DataW H) = .agg ((List.range 10).map fun i => .lit (.string (rankAt i).data.toList)) := by rfl
theorem rank_cells {cs : List Value} (hl : cs.length = 10) (h : ∀ i, i < 10 → (cs.drop i).take 1 = [.string (rankAt i)]) : cs = rankV.toList := by
  apply List.ext_getElem?
  intro k
  by_cases hk : k < 10
  · have h1 := congrArg (·[0]?) (h k hk)
    simp only [List.getElem?_take, List.getElem?_drop, Nat.add_zero] at h1
    rw [if_pos (by omega)] at h1
    rw [h1]
    rcases (by omega : k = 0 ∨ k = 1 ∨ k = 2 ∨ k = 3 ∨ k = 4 ∨ k = 5 ∨ k = 6 ∨ k = 7 ∨ k = 8 ∨ k = 9) with rfl | rfl | rfl | rfl | rfl | rfl | rfl | rfl | rfl | rfl <;> rfl
  · have h2 : rankV.toList.length = 10 := rfl
    rw [List.getElem?_eq_none (by omega), List.getElem?_eq_none (by omega)]
set_option maxRecDepth 100000 in
theorem rank_of_trod {H : Type} {enc : TypeId × Value → H} {w : World} {base : Nat} {sp : Nat → Bool} {held : Bool} {fuel : Nat} {cs : List Value} {p : List MemPlace}
    (h : DataW.trod enc Tryd.prog w base sp held fuel 71 cs = some (Rows.laid_mizzen_object_ranked, p)) : cs = rankV.toList := by
  rw [rank_data] at h
  cases fuel with
  | zero => simp [DataW.trod] at h
  | succ fuel =>
    simp only [DataW.trod, Tryd.underlying71] at h
    have c0 : Tryd.prog.cellsOf 71 = 10 := by kernel_rfl
    rw [c0, Tryd.cellsS1] at h
    split at h
    · rename_i hl
      obtain ⟨xs, hm, hx⟩ := Option.map_eq_some_iff.1 h
      have hx1 := congrArg Prod.fst hx
      simp only [DataW.agg.injEq] at hx1
      refine rank_cells (by simpa using hl) fun i hi => ?_
      obtain ⟨b, hb, hf⟩ := Lib.mapM_at hm i i (by simp [hi])
      have h2 := congrArg (·[i]?) hx1
      simp only [List.getElem?_map, hb, Option.map_some, List.getElem?_range hi, Option.some.injEq] at h2
      obtain ⟨b1, b2⟩ := b
      simp only at h2
      subst h2
      obtain ⟨s, e, ex, _⟩ := DataW.trod_string Tryd.underlying9 hf
      have e3 := congrArg Prod.fst ex
      simp only [DataW.lit.injEq, Lit.string.injEq] at e3
      have e4 : s = rankAt i := data_inj e3.symm
      rw [e4] at e
      simpa using e
    · cases h
theorem Tryd.gRanks : Tryd.prog.globalNamed "mizzen/object.ranked" = some 0 := by kernel_rfl
theorem Tryd.gRanksType : (Tryd.prog.globals[0]?).map (·.type) = some 71 := by kernel_rfl
theorem rank_of_var {W : World} {g : Nat} {t : TypeId} {cs : Array Value} {fuel : Nat} {p : List MemPlace} {base : Nat} {sp : Nat → Bool} {held : Bool} {enc : TypeId × Value → Unit} (hg : Tryd.prog.globalNamed "mizzen/object.ranked" = some g) (ht : (Tryd.prog.globals[g]?).map (·.type) = some t) (hvar : W.var? Tryd.prog "mizzen/object.ranked" = some cs)
    (hd : DataW.trod enc Tryd.prog W base sp held fuel t cs.toList = some (Rows.laid_mizzen_object_ranked, p)) : RankTab W := by
  obtain rfl := Option.some.inj (Tryd.gRanks.symm.trans hg)
  obtain rfl := Option.some.inj (Tryd.gRanksType.symm.trans ht)
  have e := rank_of_trod hd
  have e2 : cs = rankV := Array.toList_inj.1 e
  subst e2
  unfold World.var? at hvar
  rw [Tryd.gRanks] at hvar
  simp only [Option.bind_some] at hvar
  cases hh : W.heap[0]? with
  | none => rw [hh] at hvar; cases hvar
  | some o =>
    rw [hh] at hvar
    cases o with
    | cells c t fr =>
      have e3 : c = rankV := by simpa using hvar
      exact ⟨t, fr, by rw [hh, e3]; rfl⟩
    | _ => cases hvar
theorem rank_of_laid0 {W : World} {rest : List (String × DataW Unit)} (h : laidMet Tryd.prog (("mizzen/object.ranked", Rows.laid_mizzen_object_ranked) :: rest) W) : RankTab W := by
  obtain ⟨ps, ⟨g, t, cs, fuel, p, q, hg, ht, hvar, hd, _, _⟩, _⟩ := h
  exact rank_of_var hg ht hvar hd
theorem rank_of_laid1 {W : World} {x1 : String × DataW Unit} {rest : List (String × DataW Unit)} (h : laidMet Tryd.prog (x1 :: ("mizzen/object.ranked", Rows.laid_mizzen_object_ranked) :: rest) W) : RankTab W := by
  obtain ⟨ps, ⟨g1, t1, cs1, f1, p1, q1, hg1, ht1, hv1, hd1, ⟨g, t, cs, fuel, p, q, hg, ht, hvar, hd, _, _⟩, _⟩, _⟩ := h
  exact rank_of_var hg ht hvar hd

end Go.Proofs.YtbmlmcoepmbelaaDoor
