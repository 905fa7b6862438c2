/-
  What every lifted proof of these laws needs.
-/
import Derived.Test.YtlniokpekcoodaaGreatDoorRows
import Derived.Test.YtlniokpekcoodaaGreatDoorLift
import Derived.ProofKit
import Derived.SizedLaws
import Derived.Test.YtlniokpekcoodaaGreatDoorTie
import Derived.Test.YtlniokpekcoodaaGreatDoorCards
import Derived.OpenShut
import Derived.LaidMore
import Derived.Lay
import Derived.SevenTiedAt
import Derived.Stop.Joined
import Derived.Carry
import Derived.Below
import Derived.Lib.Hide
import Derived.DataShut
import Derived.Test.YtlniokpekcoodaaGreatDoorVals
import Derived.Lib.SlTrimSet
import Derived.Lib.IndexLaws
import Derived.Lib.CutLaws
set_option linter.unusedVariables false
set_option linter.unusedSimpArgs false
namespace Go.Proofs.YtlniokpekcoodaaGreatDoor
open Go.ChangeShapes Go.WideShapes Go.ChangeAt Go.RowKit

theorem Tryz.own : ownKnob Tryz.prog.godebug = none := by kernel_rfl
theorem Tryz.laidOut : laidOutB Tryz.prog = true := by kernel_rfl

set_option maxRecDepth 100000 in
/-- An argument that is a value, opened. -/
theorem open_value {H : Type} {enc : TypeId × Value → H} {W : World} {sp : Nat → Bool} {base : Nat} {held : Bool} {v : Value} {d : DataW H} {ps : List MemPlace} {r : Reach} {b0 : Nat} (hval : Value.okWide Tryz.prog W r b0 25 v)
    (h : DataW.Trod enc Tryz.prog W base sp held 25 v d ps) (hs : SmallW Tryz.prog 25 d) : ∃ cs t, v = .agg cs ∧ Lies W (fun _ => True) t cs := by
  obtain ⟨cs, rfl, _⟩ := okWide_struct Tryz.underlying25 hval
  obtain ⟨fuel, hf⟩ := h
  obtain ⟨t, ht⟩ := lies_of_trod fuel _ _ hf hs
  have e : (Value.agg cs).cells.toList.toArray = cs := by show cs.toList.toArray = cs; exact Array.toArray_toList
  rw [e] at ht
  exact ⟨cs, t, rfl, ht⟩

/-- .. and read again behind the call. -/
theorem again_value {H : Type} {enc : TypeId × Value → H} {W W' : World} {v : Value} {d : DataW H} {ps : List MemPlace} (h : DataW.Trod enc Tryz.prog W 0 (fun _ => true) true 25 v d ps) (hb : Below W.heap.size W W') (hlt : ∀ x ∈ ps, x.block < W.heap.size) :
    DataW.Trod enc Tryz.prog W' 0 (fun b => decide (b < W.heap.size)) true 25 v d ps := Below.trod Tryz.laidOut (by kernel_rfl) (of_decide_eq_true (by kernel_rfl)) h hb hlt

def zeroCells : Array Value := #[.int .i64 0, .bool false, .int .i64 0, .string ⟨#[]⟩, .slice none 0 0, .slice none 0 0]


end Go.Proofs.YtlniokpekcoodaaGreatDoor

/-
  Flat arguments of a lifted proof: a truth, a number, a text.
-/
set_option linter.unusedVariables false
set_option linter.unusedSimpArgs false
namespace Go.Proofs.YtlniokpekcoodaaGreatDoor
open Go.ChangeShapes Go.WideShapes Go.ChangeAt Go.RowKit

set_option maxRecDepth 100000 in
theorem open_str {H : Type} {enc : TypeId × Value → H} {W : World} {sp : Nat → Bool} {base : Nat} {held : Bool} {v : Value} {d : DataW H} {ps : List MemPlace} {r : Reach} {b0 : Nat} (hval : Value.okWide Tryz.prog W r b0 9 v)
    (h : DataW.Trod enc Tryz.prog W base sp held 9 v d ps) (hs : SmallW Tryz.prog 9 d) : ∃ s : ByteArray, v = .string s ∧ s.size ≤ 140737488355328 := by
  obtain ⟨s, rfl⟩ := okWide_string Tryz.underlying9 hval
  obtain ⟨fuel, hf⟩ := h
  obtain ⟨s2, e, ex, _⟩ := DataW.trod_string Tryz.underlying9 hf
  refine ⟨s, rfl, ?_⟩
  have e2 : s2 = s := by
    have : (Value.string s).cells.toList = [.string s] := rfl
    rw [this] at e
    injection e with e
    injection e with e
    exact e.symm
  subst e2
  have ed : d = .lit (.string s2.data.toList) := by injection ex
  subst ed
  have h1 := small_string hs
  rw [reach_47] at h1
  have h2 : s2.size = s2.data.toList.length := rfl
  omega

set_option maxRecDepth 100000 in
theorem again_str {H : Type} {enc : TypeId × Value → H} {W W' : World} {v : Value} {d : DataW H} {ps : List MemPlace} (h : DataW.Trod enc Tryz.prog W 0 (fun _ => true) true 9 v d ps) (hb : Below W.heap.size W W') (hlt : ∀ x ∈ ps, x.block < W.heap.size) :
    DataW.Trod enc Tryz.prog W' 0 (fun b => decide (b < W.heap.size)) true 9 v d ps := Below.trod Tryz.laidOut (by kernel_rfl) (of_decide_eq_true (by kernel_rfl)) h hb hlt
end Go.Proofs.YtlniokpekcoodaaGreatDoor

/-
  A slice of texts as an argument.
-/
set_option linter.unusedVariables false
set_option linter.unusedSimpArgs false
namespace Go.Proofs.YtlniokpekcoodaaGreatDoor
open Go.ChangeShapes Go.WideShapes Go.ChangeAt Go.RowKit

theorem Tryz.cellsStr : Tryz.prog.cellsOf 9 = 1 := by kernel_rfl
theorem Tryz.bytesStr : Tryz.prog.bytesOf 9 = 16 := by kernel_rfl

/-- A slice of texts. -/
structure SliceS (w : World) (ks : List ByteArray) (a : Option Addr) (cap : Nat) : Prop where
  le : ks.length ≤ cap
  big : ks.length * 16 ≤ 140737488355328
  ofNone : a = none → cap = 0
  ofSome : 0 < ks.length → ∃ b off, a = some ⟨b, off, none⟩
  max : cap ≤ 9223372036854775807
  cell : ∀ i (h : i < ks.length), ∀ b off, a = some ⟨b, off, none⟩ → w.cell? ⟨b, off + i, none⟩ = some (.string ks[i])
  sizes : ∀ i (h : i < ks.length), ks[i].size ≤ 140737488355328

set_option maxRecDepth 100000 in
theorem text_of {H : Type} {enc : TypeId × Value → H} {W : World} {sp : Nat → Bool} {base fuel : Nat} {held : Bool} {cs : List Value} {y : DataW H × List MemPlace} (h : DataW.trod enc Tryz.prog W base sp held fuel 9 cs = some y) (hs : SmallW Tryz.prog 9 y.1) :
    ∃ s : ByteArray, cs = [.string s] ∧ s.size ≤ 140737488355328 := by
  obtain ⟨s, e, ex, _⟩ := DataW.trod_string Tryz.underlying9 h
  refine ⟨s, e, ?_⟩
  have ed : y.1 = .lit (.string s.data.toList) := by rw [ex]
  rw [ed] at hs
  have h1 := small_string hs
  rw [reach_47] at h1
  have h2 : s.size = s.data.toList.length := rfl
  omega

set_option maxRecDepth 100000 in
theorem open_texts {H : Type} {enc : TypeId × Value → H} {W : World} {sp : Nat → Bool} {base : Nat} {held : Bool} {v : Value} {d : DataW H} {ps : List MemPlace} {r : Reach} {b0 : Nat} (hval : Value.okWide Tryz.prog W r b0 26 v)
    (h : DataW.Trod enc Tryz.prog W base sp held 26 v d ps) (hs : SmallW Tryz.prog 26 d) : ∃ ks a cap, v = .slice a ks.length cap ∧ SliceS W ks a cap := by
  obtain ⟨a0, n0, c0, rfl⟩ := okWide_slice Tryz.underlying26 hval
  obtain ⟨fuel, hf⟩ := h
  obtain ⟨a, len, cap, cl, e, hle, hm, hb, hn, hsome, hE⟩ := slice_lift (p := fun c => ∃ s : ByteArray, c = [.string s] ∧ s.size ≤ 140737488355328) Tryz.underlying26 Tryz.cellsStr (by omega) (c := .slice a0 n0 c0) hf hs (fun n' cs' y hlt hy hsy => text_of hy hsy)
  rw [Tryz.bytesStr, reach_47] at hb
  unfold maxLen at hm
  obtain ⟨fl, hfl⟩ : ∃ fl : Nat → ByteArray, ∀ i, i < len → cl i = [.string (fl i)] ∧ (fl i).size ≤ 140737488355328 := by
    have : ∀ i, ∃ t : ByteArray, i < len → cl i = [.string t] ∧ t.size ≤ 140737488355328 := fun i => by
      by_cases hi : i < len
      · obtain ⟨t, ht⟩ := (hE i hi).1; exact ⟨t, fun _ => ht⟩
      · exact ⟨⟨#[]⟩, fun q => absurd q hi⟩
    exact ⟨fun i => (this i).choose, fun i hi => (this i).choose_spec hi⟩
  have hlen : ((List.range len).map fl).length = len := by simp
  refine ⟨(List.range len).map fl, a, cap, by rw [hlen]; exact e, ⟨by omega, by omega, hn, fun hp => hsome (by omega), by omega, fun i hi bl ol ea => ?_, fun i hi => ?_⟩⟩
  · have hi2 : i < len := by omega
    obtain ⟨e1, _⟩ := hfl i hi2
    have := (hE i hi2).2.2 bl ol ea 0 (by rw [e1]; simp)
    rw [Nat.mul_one, Nat.add_zero] at this
    rw [this]
    simp [e1]
  · have hi2 : i < len := by omega
    have : ((List.range len).map fl)[i] = fl i := by simp
    rw [this]
    exact (hfl i hi2).2

set_option maxRecDepth 100000 in
theorem again_texts {H : Type} {enc : TypeId × Value → H} {W W' : World} {v : Value} {d : DataW H} {ps : List MemPlace} (h : DataW.Trod enc Tryz.prog W 0 (fun _ => true) true 26 v d ps) (hb : Below W.heap.size W W') (hlt : ∀ x ∈ ps, x.block < W.heap.size) :
    DataW.Trod enc Tryz.prog W' 0 (fun b => decide (b < W.heap.size)) true 26 v d ps := Below.trod Tryz.laidOut (by kernel_rfl) (of_decide_eq_true (by kernel_rfl)) h hb hlt

end Go.Proofs.YtlniokpekcoodaaGreatDoor

/-
  strconv.ErrRange's cell out of the rows.
-/
set_option linter.unusedVariables false
set_option linter.unusedSimpArgs false
namespace Go.Proofs.YtlniokpekcoodaaGreatDoor
open Go.ChangeShapes Go.WideShapes Go.ChangeAt Go.RowKit

theorem Tryz.gErr : Tryz.prog.globalNamed "strconv.ErrRange" = some 2 := by kernel_rfl
def typeIs (P : Program) (g : Nat) : Bool := match (P.globals[g]?).map (·.type) with
  | some t => (match P.underlying t with
    | some (.interface _) => true
    | _ => false)
  | none => false
theorem Tryz.gErrFace : typeIs Tryz.prog 2 = true := by kernel_rfl

theorem trod_face {H : Type} {enc : TypeId × Value → H} {P : Program} {w : World} {base : Nat} {sp : Nat → Bool} {held : Bool} {fuel : Nat} {t : TypeId} {cs : List Value} {x : DataW H × List MemPlace} {ms} (ht : P.underlying t = some (.interface ms)) (h : DataW.trod enc P w base sp held fuel t cs = some x) :
    ∃ v, cs = [v] ∧ (v = .nilIface ∨ ∃ te pe, v = .iface te pe) := by
  cases fuel with
  | zero => simp [DataW.trod] at h
  | succ n =>
    unfold DataW.trod at h
    rw [ht] at h
    split at h <;> first | (exact ⟨_, rfl, .inl rfl⟩) | (exact ⟨_, rfl, .inr ⟨_, _, rfl⟩⟩) | simp_all

theorem err_of_laid {W : World} {x1 x2 x3 x4 : String × DataW Unit} {d : DataW Unit} {rest : List (String × DataW Unit)} (h : laidMet Tryz.prog (x1 :: x2 :: x3 :: x4 :: ("strconv.ErrRange", d) :: rest) W) :
    ∃ ev, W.cell? ⟨2, 0, none⟩ = some ev ∧ (ev = .nilIface ∨ ∃ te pe, ev = .iface te pe) := by
  obtain ⟨ps, ⟨g0, t0, cs0, f0, p0, q0, hg0, ht0, hv0, hd0, ⟨g1, t1, cs1, f1, p1, q1, hg1, ht1, hv1, hd1, ⟨g2, t2, cs2, f2, p2, q2, hg2, ht2, hv2, hd2, ⟨g3, t3, cs3, f3, p3, q3, hg3, ht3, hv3, hd3, ⟨g, t, cs, fuel, p, q, hg, ht, hvar, hd, _, _⟩, _⟩, _⟩, _⟩, _⟩, _⟩ := h
  obtain rfl := Option.some.inj (Tryz.gErr.symm.trans hg)
  have hf := Tryz.gErrFace
  unfold typeIs at hf
  rw [ht] at hf
  simp only at hf
  cases hu : Tryz.prog.underlying t with
  | none => rw [hu] at hf; cases hf
  | some d2 =>
    rw [hu] at hf
    cases d2 with
    | interface ms =>
      obtain ⟨v, e, hv⟩ := trod_face hu hd
      refine ⟨v, ?_, hv⟩
      rw [World.var?_cell Tryz.gErr hvar]
      have : cs[0]? = cs.toList[0]? := by simp
      rw [this, e]
      rfl
    | _ => cases hf

theorem block_of_cell {W : World} {g : Nat} {v : Value} (h : W.cell? ⟨g, 0, none⟩ = some v) : g < W.heap.size := by
  cases hh : W.heap[g]? with
  | none => simp [World.cell?, hh] at h
  | some o => exact (Array.getElem?_eq_some_iff.1 hh).1

end Go.Proofs.YtlniokpekcoodaaGreatDoor

/-
  A wrap for rows that list variables: it keeps the world's shape.
-/
set_option linter.unusedVariables false
set_option linter.unusedSimpArgs false
namespace Go.Proofs.YtlniokpekcoodaaGreatDoor
open Go.ChangeShapes Go.WideShapes Go.ChangeAt Go.RowKit

theorem returns_laid_shaped {H : Type} {enc : TypeId × Value → H} {a : Assume} {C : Checked} {os : Os} {f : FuncId} {fn : Func} {s : ChangeSpec} {conds : List PathCond} {apart fresh handsOn again : Bool} {X : World → Array Value → Prop}
    (hX : ∀ (w w' : World) (args : Array Value), w.heap = w'.heap → X w args → X w' args)
    (own : ownKnob C.prog.godebug = none) (started : os.Started) (noInit : C.prog.inits.idxOf? f = none) (hfn : C.prog.funcs[f]? = some fn)
    (witness : ∃ (w : World) (tape : Tape) (i : Input), w.os = os ∧ (w.forCall tape i).Shaped C.prog ∧ i.vars = [] ∧ Input.okWide C.prog (w.forCall tape i) .any w.heap.size f i ∧
      ((s.pre enc C.prog fn conds apart (w.forCall tape i).memory i.args ∧ X (w.forCall tape i).memory i.args) ∧ sizedMet enc C.prog fn (OpenSpec.ofChange s) apart (w.forCall tape i).memory i.args) ∧ a.holds C.prog (lone (Frame.enter C.prog f i.args .normal) [] (w.forCall tape i)))
    (contract : ∀ (W : World) (base : Nat) (args : Array Value) (ds gs : List (DataW H)) (before : List MemPlace),
      (∀ (j : Nat) t v, fn.params[j]? = some t → args[j]? = some v → Value.okWide C.prog W .any base t v) →
      DataW.Whole enc C.prog fn.params.toList s.vars apart W args.toList ds gs before →
      (DataW.weightsEach C.prog (fn.params.toList ++ s.plain.varTypes C.prog) (ds ++ gs)).all (· ≤ reachBytes) = true → X W args → W.ShapedOpen C.prog →
      Calls C.prog f args W fun e W' => ∃ v, e = .returned v ∧ s.post enc C.prog fn apart fresh handsOn again W args v W') :
    ReturnsInHanded a C os f .any (fun w args => (s.pre enc C.prog fn conds apart w args ∧ X w args) ∧ sizedMet enc C.prog fn (OpenSpec.ofChange s) apart w args) (s.post enc C.prog fn apart fresh handsOn again) := by
  refine returnsInHanded_of_calls own started noInit witness ?_
  intro w tape i _ hsh _ hok hpre _
  obtain ⟨_, _, _, fn', hfn', _, _, _, _, hval⟩ := hok
  obtain rfl : fn' = fn := Option.some.inj (hfn'.symm.trans hfn)
  obtain ⟨⟨⟨ds, gs, before, hw, hc⟩, hx⟩, hz⟩ := hpre
  refine (contract (w.forCall tape i) w.heap.size i.args ds gs before hval (DataW.Whole.of_heap (w' := w.forCall tape i) (by rfl) hw) (hz.weights hw) (hX _ _ _ (by rfl) hx) hsh).mono fun e W' ⟨v, he, hp⟩ => ?_
  subst he
  exact ChangeSpec.post_blind hp

end Go.Proofs.YtlniokpekcoodaaGreatDoor

/-
  Texts' bytes, and the reference's Quote: a text in double quotes.
-/
set_option linter.unusedVariables false
set_option linter.unusedSimpArgs false
namespace Go.Proofs.YtlniokpekcoodaaGreatDoor
open Go.RowKit

def escB (b : UInt8) : List UInt8 := if b = 10 then [92, 110] else if b = 9 then [92, 116] else if b = 34 ∨ b = 92 then [92, b] else [b]
def quoteL (l : List UInt8) : List UInt8 := 34 :: (l.flatMap escB ++ [34])

theorem app_mk (a b : List UInt8) : (⟨a.toArray⟩ : ByteArray) ++ ⟨b.toArray⟩ = ⟨(a ++ b).toArray⟩ := by
  apply ByteArray.ext
  rw [ByteArray.data_append]
  simp
theorem ext_drop (s : ByteArray) (j : Nat) : (s.extract j s.size).data.toList = s.data.toList.drop j := by
  rw [Lib.extract_eq]
  show List.take _ _ = _
  exact List.take_of_length_le (by rw [List.length_drop, ← Lib.size_eq]; exact Nat.le_refl _)
theorem drop_step (s : ByteArray) (j : Nat) (h : j < s.size) : s.data.toList.drop j = s[j] :: s.data.toList.drop (j + 1) := by
  have := List.drop_eq_getElem_cons (l := s.data.toList) (i := j) (by simpa using h)
  rw [this]
  simp [ByteArray.getElem_eq_getElem_data]
theorem extract_one (s : ByteArray) (k : Nat) (h : k < s.size) : s.extract k (k + 1) = ⟨[s[k]].toArray⟩ := by
  rw [← Lib.mk_data (s.extract k (k + 1)), Lib.extract_eq]
  congr 2
  rw [show k + 1 - k = 1 by omega, List.drop_eq_getElem_cons (by simpa using h)]
  simp [ByteArray.getElem_eq_getElem_data]
theorem take_one (s : ByteArray) (k : Nat) (h : k < s.size) : s.data.toList.take (k + 1) = s.data.toList.take k ++ [s[k]] := by
  rw [List.take_succ_eq_append_getElem (by simpa using h)]; rfl
theorem escB_len (b : UInt8) : (escB b).length ≤ 2 := by
  unfold escB
  split <;> (try split) <;> (try split) <;> simp
theorem esc_len (l : List UInt8) : (l.flatMap escB).length ≤ 2 * l.length := by
  induction l with
  | nil => simp
  | cons b l ih =>
    rw [List.flatMap_cons, List.length_append, List.length_cons]
    have := escB_len b
    omega

theorem byte_four (c : Nat) : (((c : Int) == 10) = true ∧ c = 10) ∨ (((c : Int) == 10) = false ∧ ((c : Int) == 9) = true ∧ c = 9) ∨ (((c : Int) == 10) = false ∧ ((c : Int) == 9) = false ∧ ((c : Int) == 34) = true ∧ c = 34) ∨ (((c : Int) == 10) = false ∧ ((c : Int) == 9) = false ∧ ((c : Int) == 34) = false ∧ ((c : Int) == 92) = true ∧ c = 92) ∨ (((c : Int) == 10) = false ∧ ((c : Int) == 9) = false ∧ ((c : Int) == 34) = false ∧ ((c : Int) == 92) = false ∧ c ≠ 10 ∧ c ≠ 9 ∧ c ≠ 34 ∧ c ≠ 92) := by
  simp only [beq_iff_eq, beq_eq_false_iff_ne, ne_eq]
  omega

/-- What Quote has of the first k bytes. -/
def qot (s : ByteArray) (k : Nat) : ByteArray := ⟨(34 :: (s.data.toList.take k).flatMap escB).toArray⟩
theorem qot_size (s : ByteArray) (k : Nat) (hk : k ≤ s.size) : (qot s k).size ≤ 1 + 2 * k := by
  rw [qot, Lib.size_eq]
  have h1 := esc_len (s.data.toList.take k)
  have h2 := List.length_take_le k s.data.toList
  simp only [List.length_cons]
  omega
theorem qot_step (s : ByteArray) (k : Nat) (h : k < s.size) : qot s (k + 1) = qot s k ++ ⟨(escB s[k]).toArray⟩ := by
  rw [qot, qot, app_mk, take_one s k h, List.flatMap_append]
  simp
theorem byteIs {b c : UInt8} (h : b.toNat = c.toNat) : b = c := UInt8.toNat_inj.1 h
theorem esc_ten {b : UInt8} (h : b.toNat = 10) : escB b = [92, 110] := by
  have e : b = 10 := byteIs h
  subst e; rfl
theorem esc_nine {b : UInt8} (h : b.toNat = 9) : escB b = [92, 116] := by
  have e : b = 9 := byteIs h
  subst e; rfl
theorem esc_bs {b : UInt8} (h : b.toNat = 34 ∨ b.toNat = 92) : escB b = [92, b] := by
  rcases h with h | h
  · have e : b = 34 := byteIs h
    subst e; rfl
  · have e : b = 92 := byteIs h
    subst e; rfl
theorem esc_self {b : UInt8} (h1 : b.toNat ≠ 10) (h2 : b.toNat ≠ 9) (h3 : b.toNat ≠ 34) (h4 : b.toNat ≠ 92) : escB b = [b] := by
  rw [escB, if_neg (fun e => h1 (by rw [e]; rfl)), if_neg (fun e => h2 (by rw [e]; rfl)), if_neg (fun e => e.elim (fun e => h3 (by rw [e]; rfl)) (fun e => h4 (by rw [e]; rfl)))]

set_option maxHeartbeats 1000000 in
theorem r4Quote_any (s : ByteArray) (hs : s.size ≤ 1000000000) (w : World) :
    Calls Tryz.prog 16 #[.string s] w fun e w' => e = .returned (.string ⟨(quoteL s.data.toList).toArray⟩) ∧ w' = w := by
  go_enter Tryz.func16, Tryz.ntmps16
  go_wp2_with fail
  go_loop [3, 4] (fun vo vi => ∃ k : Nat, k ≤ s.size ∧ vi = .int .i64 k ∧ vo = .string (qot s k)) (fun _ vi => s.size - (intOf vi).toNat)
  case atStart => exact ⟨0, Nat.zero_le _, rfl, rfl⟩
  case round =>
    obtain ⟨k, hk, rfl, rfl⟩ := hrel
    have hqz := qot_size s k hk
    by_cases hkl : k < s.size
    · have HX := Lib.hid (extract_one s k hkl)
      have HS := Lib.hid (qot_step s k hkl)
      have hez : (s.extract k (k + 1)).size ≤ 1 := by rw [HX.out, Lib.size_eq]; simp
      have e2 : (⟨#[92, 110]⟩ : ByteArray).size = 2 := rfl
      have e3 : (⟨#[92, 116]⟩ : ByteArray).size = 2 := rfl
      have e4 : (⟨#[92]⟩ : ByteArray).size = 1 := rfl
      rcases byte_four (s[k]).toNat with ⟨c1, n1⟩ | ⟨c1, c2, n1⟩ | ⟨c1, c2, c3, n1⟩ | ⟨c1, c2, c3, c4, n1⟩ | ⟨c1, c2, c3, c4, n1, n2, n3, n4⟩
      · have N1 := Lib.hid n1
        clear n1
        go_wp2_with fail
        go_round
        case rel => exact ⟨k + 1, by omega, by go_num, by rw [HS.out, esc_ten N1.out]⟩
        case measure => simp [intOf]; omega
      · have N1 := Lib.hid n1
        clear n1
        go_wp2_with fail
        go_round
        case rel => exact ⟨k + 1, by omega, by go_num, by rw [HS.out, esc_nine N1.out]⟩
        case measure => simp [intOf]; omega
      · have N1 := Lib.hid n1
        clear n1
        have hsz2 : (qot s k ++ ⟨#[92]⟩ : ByteArray).size ≤ 2 + 2 * k := by rw [ByteArray.size_append, e4]; omega
        go_wp2_with fail
        go_round
        case rel => exact ⟨k + 1, by omega, by go_num, by
          rw [HS.out, esc_bs (.inl N1.out), HX.out, show ([92, s[k]] : List UInt8) = [92] ++ [s[k]] from rfl, ← app_mk, ByteArray.append_assoc]⟩
        case measure => simp [intOf]; omega
      · have N1 := Lib.hid n1
        clear n1
        have hsz2 : (qot s k ++ ⟨#[92]⟩ : ByteArray).size ≤ 2 + 2 * k := by rw [ByteArray.size_append, e4]; omega
        go_wp2_with fail
        go_round
        case rel => exact ⟨k + 1, by omega, by go_num, by
          rw [HS.out, esc_bs (.inr N1.out), HX.out, show ([92, s[k]] : List UInt8) = [92] ++ [s[k]] from rfl, ← app_mk, ByteArray.append_assoc]⟩
        case measure => simp [intOf]; omega
      · have N1 := Lib.hid (esc_self n1 n2 n3 n4)
        clear n1 n2 n3 n4
        go_wp2_with fail
        go_round
        case rel => exact ⟨k + 1, by omega, by go_num, by rw [HS.out, N1.out, HX.out]⟩
        case measure => simp [intOf]; omega
    · have e5 : (⟨#[34]⟩ : ByteArray).size = 1 := rfl
      go_wp2_with fail
      go_ret
      have hfin : (⟨(34 :: List.flatMap escB s.data.toList).toArray⟩ : ByteArray) ++ ⟨#[34]⟩ = ⟨(quoteL s.data.toList).toArray⟩ := app_mk _ [34]
      refine ⟨congrArg (fun x => Ending.returned (.string x)) ?_, rfl⟩
      have : s.data.toList.take k = s.data.toList := List.take_of_length_le (by rw [← Lib.size_eq]; omega)
      rw [qot, this]
      exact hfin

end Go.Proofs.YtlniokpekcoodaaGreatDoor
