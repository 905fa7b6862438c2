/-
  A slice of objects as an argument.
-/
import Derived.Test.YtbmlmcoepmbelaaDoorObjOpen
import Derived.Test.YtbmlmcoepmbelaaDoorObjV
import Derived.Test.YtbmlmcoepmbelaaDoorRows
import Derived.Test.YtbmlmcoepmbelaaDoorTie
import Derived.Test.YtbmlmcoepmbelaaDoorCards
import Derived.ProofKit
import Derived.SizedLaws
import Derived.OpenShut
import Derived.LaidMore
import Derived.Lay
import Derived.SevenTiedAt
import Derived.Stop.Joined
import Derived.Carry
import Derived.Below
import Derived.Lib.Hide
import Derived.DataShut
set_option linter.unusedVariables false
set_option linter.unusedSimpArgs false
namespace Go.Proofs.YtbmlmcoepmbelaaDoor
open Go.ChangeShapes Go.WideShapes Go.ChangeAt Go.RowKit

theorem Tryd.cellsO : Tryd.prog.cellsOf 31 = 9 := by kernel_rfl
theorem Tryd.cellsVO : Tryd.prog.cellsOf 25 = 6 := by kernel_rfl
theorem Tryd.bytesO : Tryd.prog.bytesOf 31 = 136 := by kernel_rfl
theorem list9 {α : Type} {l : List α} (h : l.length = 9) : ∃ a b c d e f g i j, l = [a, b, c, d, e, f, g, i, j] := by
  match l, h with
  | [a, b, c, d, e, f, g, i, j], _ => exact ⟨a, b, c, d, e, f, g, i, j, rfl⟩

set_option maxRecDepth 100000 in
theorem ob_of_trod {H : Type} {enc : TypeId × Value → H} {w : World} {sp : Nat → Bool} {base fuel : Nat} {held : Bool} {cs : List Value} {x : DataW H × List MemPlace} (h : DataW.trod enc Tryd.prog w base sp held fuel 31 cs = some x) (hs : SmallW Tryd.prog 31 x.1) :
    ∃ o : Ob, cs = encO o.1 ∧ (o.1.k.size ≤ 140737488355328 ∧ o.1.p.size ≤ 140737488355328 ∧ o.1.n.size ≤ 140737488355328) ∧ Lies w (fun _ => True) o.2 o.1.body := by
  obtain ⟨xs, m, rfl, rfl, hlen, hxl, hf⟩ := DataW.trod_struct Tryd.underlying31 h
  rw [Tryd.cellsO] at hlen
  obtain ⟨c0, c1, c2, c3, c4, c5, c6, c7, c8, rfl⟩ := list9 hlen
  obtain ⟨x0, x1, rfl⟩ := list2 hxl
  have f0 : DataW.trod enc Tryd.prog w base sp held m 29 (([c0, c1, c2, c3, c4, c5, c6, c7, c8].drop 0).take (Tryd.prog.cellsOf 29)) = some x0 := hf 0 _ rfl
  have f1 : DataW.trod enc Tryd.prog w base sp held m 25 (([c0, c1, c2, c3, c4, c5, c6, c7, c8].drop 3).take (Tryd.prog.cellsOf 25)) = some x1 := hf 1 _ rfl
  rw [Tryd.cellsID] at f0
  rw [Tryd.cellsVO] at f1
  simp only [List.drop_zero, List.drop_succ_cons, List.take_succ_cons, List.take_zero] at f0 f1
  have s0 : SmallW Tryd.prog 29 x0.1 := small_agg Tryd.underlying31 hs 0 rfl rfl
  have s1 : SmallW Tryd.prog 25 x1.1 := small_agg Tryd.underlying31 hs 1 rfl rfl
  obtain ⟨k, p, n, e, hk, hp, hn⟩ := id_of_trod f0 s0
  obtain ⟨t, ht⟩ := lies_of_trod m _ _ f1 s1
  obtain ⟨q0, q1, q2, q3, q4, q4l, q4c, q5, q5l, q5c, eq⟩ := ht.six
  have e2 : [c3, c4, c5, c6, c7, c8] = [.int .i64 q0, .bool q1, .int .i64 q2, .string q3, .slice q4 q4l q4c, .slice q5 q5l q5c] := by
    have := congrArg Array.toList eq
    simpa using this
  simp only [List.cons.injEq, and_true] at e e2
  obtain ⟨rfl, rfl, rfl⟩ := e
  obtain ⟨rfl, rfl, rfl, rfl, rfl, rfl⟩ := e2
  exact ⟨(⟨k, p, n, q0, q1, q2, q3, q4, q4l, q4c, q5, q5l, q5c⟩, t), rfl, ⟨hk, hp, hn⟩, ht⟩

set_option maxRecDepth 100000 in
theorem open_objects {H : Type} {enc : TypeId × Value → H} {W : World} {sp : Nat → Bool} {base : Nat} {held : Bool} {v : Value} {d : DataW H} {ps : List MemPlace} {r : Reach} {b0 : Nat} (hval : Value.okWide Tryd.prog W r b0 47 v)
    (h : DataW.Trod enc Tryd.prog W base sp held 47 v d ps) (hs : SmallW Tryd.prog 47 d) : ∃ (os : List Ob) (a : Option Addr) (cap : Nat), v = .slice a os.length cap ∧ SliceO W (fun _ => True) os a cap := by
  obtain ⟨a0, n0, c0, rfl⟩ := okWide_slice Tryd.underlying47 hval
  obtain ⟨fuel, hf⟩ := h
  obtain ⟨a, len, cap, cl, e, hle, hm, hb, hn, hsome, hE⟩ := slice_lift (p := fun c => ∃ o : Ob, c = encO o.1 ∧ (o.1.k.size ≤ 140737488355328 ∧ o.1.p.size ≤ 140737488355328 ∧ o.1.n.size ≤ 140737488355328) ∧ Lies W (fun _ => True) o.2 o.1.body) Tryd.underlying47 Tryd.cellsO (by omega) (c := .slice a0 n0 c0) hf hs (fun n' cs' y hlt hy hsy => ob_of_trod hy hsy)
  rw [Tryd.bytesO, reach_47] at hb
  unfold maxLen at hm
  obtain ⟨fl, hfl⟩ : ∃ fl : Nat → Ob, ∀ i, i < len → cl i = encO (fl i).1 ∧ ((fl i).1.k.size ≤ 140737488355328 ∧ (fl i).1.p.size ≤ 140737488355328 ∧ (fl i).1.n.size ≤ 140737488355328) ∧ Lies W (fun _ => True) (fl i).2 (fl i).1.body := by
    have : ∀ i, ∃ t : Ob, i < len → cl i = encO t.1 ∧ (t.1.k.size ≤ 140737488355328 ∧ t.1.p.size ≤ 140737488355328 ∧ t.1.n.size ≤ 140737488355328) ∧ Lies W (fun _ => True) t.2 t.1.body := fun i => by
      by_cases hi : i < len
      · obtain ⟨t, ht⟩ := (hE i hi).1; exact ⟨t, fun _ => ht⟩
      · exact ⟨(⟨⟨#[]⟩, ⟨#[]⟩, ⟨#[]⟩, 0, false, 0, ⟨#[]⟩, none, 0, 0, none, 0, 0⟩, T.mk 0 false 0 ⟨#[]⟩ [] []), fun q => absurd q hi⟩
    exact ⟨fun i => (this i).choose, fun i hi => (this i).choose_spec hi⟩
  have hlen : ((List.range len).map fl).length = len := by simp
  refine ⟨(List.range len).map fl, a, cap, by rw [hlen]; exact e, ⟨⟨by omega, by omega, hn, fun hp => ?_, by omega⟩, fun i hi bl ol ea j hj => ?_, fun i hi => ?_, fun i hi => ?_⟩⟩
  · obtain ⟨bl, ol, e2⟩ := hsome (by omega)
    exact ⟨bl, ol, e2, trivial⟩
  · have hi2 : i < len := by omega
    have hg : ((List.range len).map fl)[i] = fl i := by simp
    have hj2 : j < (cl i).length := by rw [(hfl i hi2).1]; simpa [hg] using hj
    have := (hE i hi2).2.2 bl ol ea j hj2
    rw [this]
    simp [(hfl i hi2).1]
  · have hi2 : i < len := by omega
    have : ((List.range len).map fl)[i] = fl i := by simp
    rw [this]
    exact (hfl i hi2).2.1
  · have hi2 : i < len := by omega
    have : ((List.range len).map fl)[i] = fl i := by simp
    rw [this]
    exact (hfl i hi2).2.2

set_option maxRecDepth 100000 in
theorem again_objects {H : Type} {enc : TypeId × Value → H} {W W' : World} {v : Value} {d : DataW H} {ps : List MemPlace} (h : DataW.Trod enc Tryd.prog W 0 (fun _ => true) true 47 v d ps) (hb : Below W.heap.size W W') (hlt : ∀ x ∈ ps, x.block < W.heap.size) :
    DataW.Trod enc Tryd.prog W' 0 (fun b => decide (b < W.heap.size)) true 47 v d ps := Below.trod Tryd.laidOut (by kernel_rfl) (of_decide_eq_true (by kernel_rfl)) h hb hlt

end Go.Proofs.YtbmlmcoepmbelaaDoor

/-
  A wrap for rows that list variables: it keeps the world's shape.
-/
set_option linter.unusedVariables false
set_option linter.unusedSimpArgs false
namespace Go.Proofs.YtbmlmcoepmbelaaDoor
open Go.ChangeShapes Go.WideShapes Go.ChangeAt Go.RowKit

theorem returns_laid_shaped {H : Type} {enc : TypeId × Value → H} {a : Assume} {C : Checked} {os : Os} {f : FuncId} {fn : Func} {s : ChangeSpec} {conds : List PathCond} {apart fresh handsOn again : Bool} {X : World → Array Value → Prop}
    (hX : ∀ (w w' : World) (args : Array Value), w.heap = w'.heap → X w args → X w' args)
    (own : ownKnob C.prog.godebug = none) (started : os.Started) (noInit : C.prog.inits.idxOf? f = none) (hfn : C.prog.funcs[f]? = some fn)
    (witness : ∃ (w : World) (tape : Tape) (i : Input), w.os = os ∧ (w.forCall tape i).Shaped C.prog ∧ i.vars = [] ∧ Input.okWide C.prog (w.forCall tape i) .any w.heap.size f i ∧
      ((s.pre enc C.prog fn conds apart (w.forCall tape i).memory i.args ∧ X (w.forCall tape i).memory i.args) ∧ sizedMet enc C.prog fn (OpenSpec.ofChange s) apart (w.forCall tape i).memory i.args) ∧ a.holds C.prog (lone (Frame.enter C.prog f i.args .normal) [] (w.forCall tape i)))
    (contract : ∀ (W : World) (base : Nat) (args : Array Value) (ds gs : List (DataW H)) (before : List MemPlace),
      (∀ (j : Nat) t v, fn.params[j]? = some t → args[j]? = some v → Value.okWide C.prog W .any base t v) →
      DataW.Whole enc C.prog fn.params.toList s.vars apart W args.toList ds gs before →
      (DataW.weightsEach C.prog (fn.params.toList ++ s.plain.varTypes C.prog) (ds ++ gs)).all (· ≤ reachBytes) = true → X W args → W.ShapedOpen C.prog →
      Calls C.prog f args W fun e W' => ∃ v, e = .returned v ∧ s.post enc C.prog fn apart fresh handsOn again W args v W') :
    ReturnsInHanded a C os f .any (fun w args => (s.pre enc C.prog fn conds apart w args ∧ X w args) ∧ sizedMet enc C.prog fn (OpenSpec.ofChange s) apart w args) (s.post enc C.prog fn apart fresh handsOn again) := by
  refine returnsInHanded_of_calls own started noInit witness ?_
  intro w tape i _ hsh _ hok hpre _
  obtain ⟨_, _, _, fn', hfn', _, _, _, _, hval⟩ := hok
  obtain rfl : fn' = fn := Option.some.inj (hfn'.symm.trans hfn)
  obtain ⟨⟨⟨ds, gs, before, hw, hc⟩, hx⟩, hz⟩ := hpre
  refine (contract (w.forCall tape i) w.heap.size i.args ds gs before hval (DataW.Whole.of_heap (w' := w.forCall tape i) (by rfl) hw) (hz.weights hw) (hX _ _ _ (by rfl) hx) hsh).mono fun e W' ⟨v, he, hp⟩ => ?_
  subst he
  exact ChangeSpec.post_blind hp

end Go.Proofs.YtbmlmcoepmbelaaDoor
