/-
  Package slices' Backward, at slices of values.
-/
import Derived.RangeFuncNested
import Derived.RangeFuncBound
import Derived.RangeFuncCalls
import Derived.RangeFuncLeaves
import Derived.Shelf.Abstract
import Derived.Shelf.RegionOpen
import Derived.WalkKit
import Derived.OwnWalkIn
import Derived.TacticsInMore
import Derived.LoopNIn
import Derived.LoopIn
import Derived.Test.YtbbpipjadniafaaDoorPathY
import Derived.Test.YtbbpipjadniafaaDoorSpecsI
set_option linter.unusedVariables false
set_option linter.unusedSimpArgs false
namespace Go.Proofs.YtbbpipjadniafaaDoor
open Go.RowKit Go.Shelf

attribute [local go_sem] Oper.semAt_some

/-- The places of n values, from the last one on. -/
def backs (n : Nat) : List (Fin n) := (List.finRange n).reverse
theorem backs_len (n : Nat) : (backs n).length = n := by simp [backs]
theorem backs_succ (n k : Nat) (h : k < n) : (backs n).take (k + 1) = (backs n).take k ++ [⟨n - 1 - k, by omega⟩] := by
  rw [List.take_succ_eq_append_getElem (by rw [backs_len]; exact h)]
  congr 1
  simp [backs, List.getElem_reverse]

/-- What a round keeps: what lay below n₀, and the variable that holds the slice. -/
def KeepBk (n₀ Bs : Nat) (W W' : World) : Prop := Below n₀ W W' ∧ ∀ v, W.cell? ⟨Bs, 0, none⟩ = some v → W'.cell? ⟨Bs, 0, none⟩ = some v
theorem keepBk_t {n₀ Bs : Nat} {A B C : World} (h : KeepBk n₀ Bs A B) (k : KeepBk n₀ Bs B C) : KeepBk n₀ Bs A C := ⟨h.1.trans k.1, fun v hv => k.2 v (h.2 v hv)⟩
theorem keepBk_b {n₀ Bs : Nat} {w : World} (hn : n₀ ≤ w.heap.size) (W : World) (l : Nat) (o o' : Obj) (hl : w.heap.size ≤ l) (h : W.heap[l]? = some o) (ho : o.isCells = false) (h3 : o.isWalk = false) : KeepBk n₀ Bs W (W.putObj l o') :=
  ⟨belowK_b hn W l o o' hl h ho h3, fun v hv => by
    have hne : Bs ≠ l := fun e => by
      subst e
      unfold World.cell? at hv
      rw [h] at hv
      cases o <;> first | (cases hv; done) | (cases ho; done)
    have := World.putObj_heap_other (w := W) (o := o') hne
    unfold World.cell? at hv ⊢
    rw [this]
    exact hv⟩

set_option maxRecDepth 100000 in
set_option maxHeartbeats 4000000 in
theorem back1_in (F : Fence) (m : Nat) (hf : F.fn 50) (hro : F.round = none) (hm : 1 ≤ m) (l Bs n₀ n cap : Nat) (a : Option Addr) (cl : Nat → Array Value) (hle : n ≤ cap) (hbig : n * 88 ≤ 140737488355328)
    (hsome : 0 < n → ∃ bl ol, a = some ⟨bl, ol, none⟩ ∧ bl < n₀) (h6 : ∀ i, i < n → ∃ (k : Int) (b : Bool) (q : Int) (s : ByteArray) (la : Option Addr) (ll lc : Nat) (ma : Option Addr) (ml mc : Nat), cl i = #[.int .i64 k, .bool b, .int .i64 q, .string s, .slice la ll lc, .slice ma ml mc]) (J Jx : List (Fin n) → World → Prop)
    (hY : ∀ pre x W, J pre W → pre.length < n → YieldAt F (m - 1) Tryd.prog l #[.int .i64 (x.val : Int), .agg (cl x.val)] W fun e W' =>
      (e = .returned (.bool true) ∧ J (pre ++ [x]) W' ∧ KeepBk n₀ Bs W W') ∨ (e = .returned (.bool false) ∧ Jx (pre ++ [x]) W'))
    (W : World) (hBs : W.cell? ⟨Bs, 0, none⟩ = some (.slice a n cap)) (hc : ∀ i, i < n → ∀ bl ol, a = some ⟨bl, ol, none⟩ → Row W bl (ol + i * 6) (cl i)) (h0 : J [] W) :
    CallsIn F m Tryd.prog 50 #[.func (.yield l) #[] #[], .pointer (some ⟨Bs, 0, none⟩)] W fun e W' => (∃ v, e = .returned v) ∧
      ((∃ ys, ys = backs n ∧ J ys W') ∨ (∃ pre, (∃ k, k ≤ n ∧ pre = (backs n).take k) ∧ Jx pre W')) := by
  refine callsIn_of_wp Tryd.func50 rfl hf ?_ hro
  simp only [Tryd.ntmps50, List.size_toArray, List.length_cons, List.length_nil, Nat.reduceAdd, Nat.reduceSub, Array.replicate_succ, Array.replicate_zero, List.push_toArray, List.append_toArray, List.nil_append, List.cons_append]
  have HBs := Lib.hid hBs
  have hw1 : IntKind.i64.wrap ((n : Int) - 1) = (n : Int) - 1 := IntWalk.i64_in _ (by omega)
  gi_wp2
  gi_loopw [3] (fun i wr => ∃ k : Nat, k ≤ n ∧ i = .int .i64 ((n : Int) - 1 - k) ∧ J ((backs n).take k) wr ∧ Below n₀ W wr ∧ wr.cell? ⟨Bs, 0, none⟩ = some (.slice a n cap))
    (fun i _ => (intOf i + 1).toNat)
  case atStart => exact ⟨0, Nat.zero_le _, by simp, by simpa using h0, Below.refl _ _, HBs.out⟩
  case round =>
    obtain ⟨k, hk, rfl, hJs, hnx, hbs⟩ := hrel
    clear hBs
    by_cases hlt : k < n
    · obtain ⟨bl, ol, rfl, hbl⟩ := hsome (by omega)
      obtain ⟨x, hxv⟩ : ∃ x : Fin n, x.val = n - 1 - k := ⟨⟨n - 1 - k, by omega⟩, rfl⟩
      have hsucc : (backs n).take (k + 1) = (backs n).take k ++ [x] := by rw [backs_succ n k hlt]; congr 2; exact Fin.ext hxv.symm
      obtain ⟨c0, c1, c2, c3, c4, c4l, c4c, c5, c5l, c5c, hcl⟩ := h6 x.val x.isLt
      have hr := hc x.val x.isLt bl ol rfl
      obtain ⟨fn, tmps, assign, body, hy, hR⟩ := hY _ x wr hJs (by rw [List.length_take, backs_len]; omega)
      rw [hcl] at hr hy
      obtain ⟨r0, r1, r2, r3, r4, r5⟩ := (hr.below hnx hbl).six
      have hix : ((n : Int) - 1 - k) = (x.val : Int) := by omega
      have hi1 := x.isLt
      have HBR := Lib.hid hbs
      have HSU := Lib.hid hsucc
      have hw2 : IntKind.i64.wrap ((x.val : Int) - 1) = (n : Int) - 1 - ((k + 1 : Nat) : Int) := by rw [IntWalk.i64_in _ (by omega)]; omega
      have HIX := Lib.hid hxv
      generalize hiv : x.val = i at *
      rw [hix]
      clear hsucc hcl hr hix hxv
      try dsimp only at hy
      gi_wp2
      refine hR.mono ?_
      rintro e W3 (⟨rfl, hJ3, hk3⟩ | ⟨rfl, hJx3⟩)
      · gi_wp2
        go_roundw
        case rel => exact ⟨k + 1, by omega, by first | rfl | (rw [← hw2]) | (congr 1), by rw [HSU.out]; exact hJ3, hnx.trans hk3.1, hk3.2 _ HBR.out⟩
        case measure => have := HIX.out; simp only [intOf]; omega
      · gi_wp2
        refine bodyPost_ret (results_none rfl _ _ _) rfl ?_
        exact ⟨⟨_, rfl⟩, .inr ⟨_, ⟨k + 1, by omega, HSU.out.symm⟩, hJx3⟩⟩
    · obtain rfl : k = n := by omega
      gi_wp2
      go_end0
      exact ⟨⟨_, rfl⟩, .inl ⟨_, rfl, by rw [List.take_of_length_le (by rw [backs_len]; exact Nat.le_refl _)] at hJs; exact hJs⟩⟩

set_option maxHeartbeats 1000000 in
theorem back_in (F : Fence) (m : Nat) (hf : F.fn 37) (hro : F.round = none) (a : Option Addr) (len cap : Nat) (w : World) :
    CallsIn F m Tryd.prog 37 #[.slice a len cap] w fun e w' => e = .returned (.func (.func 50) #[] #[.pointer (some ⟨w.heap.size, 0, none⟩)]) ∧ w' = w.alloc (.cells #[.slice a len cap] 33) := by
  refine callsIn_of_wp Tryd.func37 rfl hf ?_ hro
  simp only [Tryd.ntmps37, List.size_toArray, List.length_cons, List.length_nil, Nat.reduceAdd, Nat.reduceSub, Array.replicate_succ, Array.replicate_zero, List.push_toArray, List.append_toArray, List.nil_append, List.cons_append]
  gi_wp2
  go_ret
  exact ⟨rfl, rfl⟩

/-- slices.Backward of a slice of values: its places, from the last one on, each with its six cells. -/
theorem back_stops (F : Fence) (m : Nat) (hf : F.fn 50) (hro : F.round = none) (hm : 1 ≤ m) {R : Nat → Prop} {ts : List T} {cap : Nat} {a : Option Addr} {cl : Nat → Array Value} (Bs n₀ : Nat) (w : World) (hS : SliceV w R ts a cap cl) (hn₀ : n₀ ≤ w.heap.size) (hBs : w.cell? ⟨Bs, 0, none⟩ = some (.slice a ts.length cap)) (hlow : 0 < ts.length → ∀ bl ol, a = some ⟨bl, ol, none⟩ → bl < n₀) :
    SeqStopsK F m Tryd.prog 50 #[.pointer (some ⟨Bs, 0, none⟩)] (fun x : Fin ts.length => #[Value.int .i64 (x.val : Int), .agg (cl x.val)]) (KeepBk n₀ Bs) (fun ys => ys = backs ts.length)
      (fun pre => ∃ k, k ≤ ts.length ∧ pre = (backs ts.length).take k) ts.length w := fun l J Jx W hW _ _ hY h0 =>
  back1_in F m hf hro hm l Bs n₀ ts.length cap a cl hS.hdr.le hS.hdr.big (fun hp => by
    obtain ⟨b, o, e, _⟩ := hS.hdr.some hp
    exact ⟨b, o, e, hlow hp b o e⟩) (fun i hi => (hS.each i hi).six) J Jx hY W (cells_frame hW hBs) (fun i hi bl ol e => (hS.rows i hi bl ol e).below hW (by have := hlow (by omega) bl ol e; omega)) h0

/-- What only turns blocks that hold no cells keeps what lies in cells. -/
theorem Lies.keepC {w w' : World} {R : Nat → Prop} {t : T} {cs : Array Value} (h : Lies w R t cs) (hk : ∀ (b : Nat) (o : Obj), w.heap[b]? = some o → o.isCells = true → w'.heap[b]? = w.heap[b]?) : Lies w' R t cs := by
  have hcell : ∀ (b off : Nat) (v : Value), w.cell? ⟨b, off, none⟩ = some v → w'.cell? ⟨b, off, none⟩ = some v := fun b off v hv => by
    have hv2 := hv
    unfold World.cell? at hv
    cases ho : w.heap[b]? with
    | none => rw [ho] at hv; cases hv
    | some o =>
      rw [ho] at hv
      have hc : o.isCells = true := by cases o <;> first | rfl | (cases hv)
      exact (World.cell?_of_block (w := w) (a := ⟨b, off, none⟩) (hk b o ho hc)).trans hv2
  induction h with
  | mk k b n s l m la lc ma mc cl cm hk' hn hs hl hm rl rm ks il im ihl ihm =>
    exact .mk k b n s l m la lc ma mc cl cm hk' hn hs hl hm (fun i hi bl ol e j hj => hcell _ _ _ (rl i hi bl ol e j hj)) (fun i hi bl ol e j hj => hcell _ _ _ (rm i hi bl ol e j hj)) ks ihl ihm

end Go.Proofs.YtbbpipjadniafaaDoor
