/-
  Package trim's left.
-/
import Derived.Test.YtomdkmhaohcofaaDoorTrimRead
set_option linter.unusedVariables false
set_option linter.unusedSimpArgs false
namespace Go.Proofs.YtomdkmhaohcofaaDoor
open Go.RowKit

def tokC (t : Tok) : Array Value := #[.bool t.act, .string ⟨t.S.toArray⟩, .int .i64 t.at']

theorem trimLeftS_le (l c : List UInt8) : (Lib.trimLeftS l c).length ≤ l.length := by
  unfold Lib.trimLeftS
  exact (List.dropWhile_suffix _).length_le
theorem trimRightS_le (l c : List UInt8) : (Lib.trimRightS l c).length ≤ l.length := by
  unfold Lib.trimRightS
  have := (List.dropWhile_suffix (l := l.reverse) (fun x => c.contains x)).length_le
  simpa using this

theorem left_ff (l : List UInt8) (n : Nat) : leftT l n false false = ⟨false, l, n⟩ := by simp [leftT]
theorem left_ft (l : List UInt8) (n : Nat) : leftT l n false true = ⟨false, Lib.trimRightS l [32, 9, 10], n⟩ := by simp [leftT]
theorem left_tf (l : List UInt8) (n : Nat) : leftT l n true false = ⟨false, Lib.trimLeftS l [32, 9, 10], n + (l.length - (Lib.trimLeftS l [32, 9, 10]).length)⟩ := by simp [leftT]
theorem left_tt (l : List UInt8) (n : Nat) : leftT l n true true = ⟨false, Lib.trimRightS (Lib.trimLeftS l [32, 9, 10]) [32, 9, 10], n + (l.length - (Lib.trimLeftS l [32, 9, 10]).length)⟩ := by simp [leftT]

theorem three_boxes {w w1 : World} {o1 : Obj} {ys zs : Array Value} {t t2 : TypeId} {B : Nat} (h : Below B (((w.alloc o1).alloc (.cells ys t2)).alloc (.cells zs t)) w1) (hB : w.heap.size + 2 < B) :
    (∀ j, w1.cell? ⟨w.heap.size + 1 + 1, j, none⟩ = zs[j]?) ∧ (∀ j, w1.frozen? ⟨w.heap.size + 1 + 1, j, none⟩ = false) ∧ (∀ j, w1.cell? ⟨w.heap.size + 1, j, none⟩ = ys[j]?) := by
  have e : w.heap.size + 1 + 1 = ((w.alloc o1).alloc (.cells ys t2)).heap.size := by simp
  have e1 : w.heap.size + 1 = (w.alloc o1).heap.size := by simp
  refine ⟨fun j => ?_, fun j => ?_, fun j => ?_⟩
  · rw [h.cell (p := ⟨w.heap.size + 1 + 1, j, none⟩) (by simp only; omega), e, World.cell?_alloc_new]
  · rw [h.frozen (p := ⟨w.heap.size + 1 + 1, j, none⟩) (by simp only; omega), e, World.frozen?_alloc_new]
  · rw [h.cell (p := ⟨w.heap.size + 1, j, none⟩) (by simp only; omega), World.cell?_alloc_lt _ _ _ (by simp), e1, World.cell?_alloc_new]

theorem tok_back {P : Program} {fn : Func} {R : Ending → World → Prop} {a : Act} {w : World} {p : Tmp} {d : TypeDesc} {ty : TypeId} (W : World) (g : Nat) (S : ByteArray) (n : Int) (hw : w = setRow W g 0 [.bool false, .string S, .int .i64 n]) (h : fn.results = #[.cell p ty]) (hdef : a.defers = []) (hp : a.tmps.getD p undef = .pointer (some ⟨g, 0, none⟩))
    (hd : (match d with | .struct _ | .array _ _ => true | _ => false) = true) (hu : P.underlying ty = some d) (hi : (P.info? ty).map (·.size) = some 3) (h0 : ∃ u, W.cell? ⟨g, 0, none⟩ = some u) (h1 : ∃ u, W.cell? ⟨g, 1, none⟩ = some u) (h2 : ∃ u, W.cell? ⟨g, 2, none⟩ = some u)
    (hR : R (.returned (.agg #[.bool false, .string S, .int .i64 n])) (setRow W g 0 [.bool false, .string S, .int .i64 n])) : bodyPost P fn R .ret a w :=
  ret_cells W g _ hw h hdef hp hd hu hi (fun i hi => by
    have hi3 : i = 0 ∨ i = 1 ∨ i = 2 := by simp at hi; omega
    rcases hi3 with rfl | rfl | rfl
    · exact h0
    · exact h1
    · exact h2) hR

set_option maxHeartbeats 1000000 in
theorem mleft_any (s : ByteArray) (n : Nat) (s1 s2 : ByteArray) (a1 b1 a2 b2 : Bool) (hs : s.size ≤ 65536) (hn : n ≤ 65536) (w : World) :
    Calls Tryd.prog 19 #[.string s, .int .i64 n, .agg #[.string s1, .bool a1, .bool b1], .agg #[.string s2, .bool a2, .bool b2]] w fun e w' => e = .returned (.agg (tokC (leftT s.data.toList n b1 a2))) ∧ Below w.heap.size w w' := by
  have hact : ∃ d, Tryd.prog.underlying 30 = some d ∧ (match d with | .struct _ | .array _ _ => true | _ => false) = true := ⟨_, Tryd.underlying30, rfl⟩
  obtain ⟨dd, hu, hdd⟩ := hact
  have hsz : (Tryd.prog.info? 30).map (·.size) = some 3 := by kernel_rfl
  have DD := Lib.hid hdd
  have HU := Lib.hid hu
  have HZ := Lib.hid hsz
  clear hdd hu hsz
  have hv := Lib.hid (bbox (bbox (bbox (Below.refl w.heap.size w) (.cells #[.string s1, .bool a1, .bool b1] 36) (Nat.le_refl _)) (.cells #[.string s2, .bool a2, .bool b2] 36) (by simp)) (.cells #[.bool false, .string ⟨#[]⟩, .int .i64 0] 30) (by simp; omega))
  obtain ⟨rl, hrl, hrls⟩ : ∃ r : ByteArray, Hid (r = ⟨(Lib.trimLeftS s.data.toList [32, 9, 10]).toArray⟩) ∧ r.size ≤ s.size := ⟨_, rfl, by rw [Lib.size_eq, Lib.size_eq]; exact trimLeftS_le _ _⟩
  cases b1
  · cases a2
    · rw [left_ff]
      go_enter Tryd.func19, Tryd.ntmps19
      go_wp2_with fail
      refine ret_cells0 (w.heap.size + 1 + 1) [.bool false, .string s, .int .i64 n] Tryd.results19 rfl rfl DD.out HU.out HZ.out (fun i hi => ?_) ?_
      · have e : w.heap.size + 1 + 1 = ((w.alloc (.cells #[.string s1, .bool a1, .bool false] 36)).alloc (.cells #[.string s2, .bool false, .bool b2] 36)).heap.size := by simp
        rw [e, World.cell?_alloc_new]
        exact Array.getElem?_eq_getElem (show i < 3 from hi)
      · exact ⟨by rw [tokC, Lib.mk_data], bbox (bbox (bbox (Below.refl w.heap.size w) _ (Nat.le_refl _)) _ (by simp)) _ (by simp; omega)⟩
    · rw [left_ft]
      go_enter Tryd.func19, Tryd.ntmps19
      go_wp2_with (go_at_call 12; refine (trimRight_any _ _ (by omega)).mono ?_; rintro e w3 ⟨rfl, hb3⟩
                   obtain ⟨x0, f0, _⟩ := three_boxes hb3 (by simp)
                   have HB3 := Lib.hid hb3
                   have c0 := x0 0
                   have c1 := x0 1
                   have c2 := x0 2
                   simp at c0 c1 c2
                   clear x0 hb3)
      exact tok_back w3 _ _ _ rfl Tryd.results19 rfl rfl DD.out HU.out HZ.out ⟨_, c0⟩ ⟨_, c1⟩ ⟨_, c2⟩ ⟨rfl, setRow_below _ (by omega) _ _ _ (hv.out.trans (HB3.out.mono (by simp; omega)))⟩
  · have hat : Hid ((n : Int) + (s.size - rl.size) = ((n + (s.data.toList.length - (Lib.trimLeftS s.data.toList [32, 9, 10]).length) : Nat) : Int)) := by
      show _ = _
      have e1 : rl.size = (Lib.trimLeftS s.data.toList [32, 9, 10]).length := by rw [hrl.out, Lib.size_eq]
      rw [← e1, ← Lib.size_eq]
      omega
    cases a2
    · rw [left_tf]
      go_enter Tryd.func19, Tryd.ntmps19
      go_wp2_with (go_at_call 13; refine (trimLeft_any _ _).mono ?_; rintro e w3 ⟨he, hb3⟩; rw [← hrl.out] at he; subst he
                   obtain ⟨x0, f0, y0⟩ := three_boxes hb3 (by simp)
                   have HB3 := Lib.hid hb3
                   have c0 := x0 0
                   have c1 := x0 1
                   have c2 := x0 2
                   have d1 := y0 1
                   simp at c0 c1 c2 d1
                   clear x0 hb3 y0)
      exact tok_back w3 _ _ _ rfl Tryd.results19 rfl rfl DD.out HU.out HZ.out ⟨_, c0⟩ ⟨_, c1⟩ ⟨_, c2⟩ ⟨by rw [tokC, hat.out, hrl.out], setRow_below _ (by omega) _ _ _ (hv.out.trans (HB3.out.mono (by simp; omega)))⟩
    · rw [left_tt]
      go_enter Tryd.func19, Tryd.ntmps19
      go_wp2_with (first
                   | (go_at_call 13; refine (trimLeft_any _ _).mono ?_; rintro e w3 ⟨he, hb3⟩; rw [← hrl.out] at he; subst he
                      obtain ⟨x0, f0, y0⟩ := three_boxes hb3 (by simp)
                      have HB3 := Lib.hid hb3
                      have d1 := y0 1
                      simp at d1
                      clear x0 hb3 y0)
                   | (go_at_call 12; refine (trimRight_any _ _ (by omega)).mono ?_; rintro e w4 ⟨rfl, hb4⟩
                      obtain ⟨x0, f0, _⟩ := three_boxes (HB3.out.trans (hb4.mono HB3.out.size)) (by simp)
                      have HB4 := Lib.hid (HB3.out.trans (hb4.mono HB3.out.size))
                      have c0 := x0 0
                      have c1 := x0 1
                      have c2 := x0 2
                      simp at c0 c1 c2
                      clear x0 hb4))
      exact tok_back w4 _ _ _ rfl Tryd.results19 rfl rfl DD.out HU.out HZ.out ⟨_, c0⟩ ⟨_, c1⟩ ⟨_, c2⟩ ⟨by
        rw [tokC, hat.out]
        have e : rl.data.toList = Lib.trimLeftS s.data.toList [32, 9, 10] := by rw [hrl.out]
        rw [e], setRow_below _ (by omega) _ _ _ (hv.out.trans (HB4.out.mono (by simp; omega)))⟩

end Go.Proofs.YtomdkmhaohcofaaDoor
