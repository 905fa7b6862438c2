/-
  Package trim's comment and read.
-/
import Derived.Test.YtomdkmhaohcofaaDoorTrimLen
import Derived.Test.YtomdkmhaohcofaaDoorOwn
set_option linter.unusedVariables false
set_option linter.unusedSimpArgs false
namespace Go.Proofs.YtomdkmhaohcofaaDoor
open Go.RowKit

theorem Tryd.setZero : (Tryd.prog.info? (Tryd.lays160_ren.t 116)).map (fun i => (i.zero, i.size)) = some (some (.agg (Array.replicate 256 (.bool false))), 256) := by kernel_rfl
theorem Tryd.setZero1 : (Tryd.prog.info? (Tryd.lays161_ren.t 116)).map (fun i => (i.zero, i.size)) = some (some (.agg (Array.replicate 256 (.bool false))), 256) := by kernel_rfl
theorem Tryd.setZero2 : (Tryd.prog.info? (Tryd.lays162_ren.t 116)).map (fun i => (i.zero, i.size)) = some (some (.agg (Array.replicate 256 (.bool false))), 256) := by kernel_rfl

/-- strings.Trim of blanks, tabs and line feeds. -/
theorem trim_any (s : ByteArray) (w : World) (hs : s.size ≤ 140737488355328) :
    Calls Tryd.prog 35 #[.string s, .string ⟨#[32, 9, 10]⟩] w fun e w' => e = .returned (.string ⟨(Lib.trimS s.data.toList [32, 9, 10]).toArray⟩) ∧ Below w.heap.size w w' :=
  Any.strings_Trim_laid Tryd.lays160 Tryd.setZero s ⟨#[32, 9, 10]⟩ w (by omega) (by decide) (ascii_of_all (by decide))
theorem trimLeft_any (s : ByteArray) (w : World) :
    Calls Tryd.prog 13 #[.string s, .string ⟨#[32, 9, 10]⟩] w fun e w' => e = .returned (.string ⟨(Lib.trimLeftS s.data.toList [32, 9, 10]).toArray⟩) ∧ Below w.heap.size w w' :=
  Any.strings_TrimLeft_laid Tryd.lays161 Tryd.setZero1 s ⟨#[32, 9, 10]⟩ w (by decide) (ascii_of_all (by decide))
theorem trimRight_any (s : ByteArray) (w : World) (hs : s.size ≤ 140737488355328) :
    Calls Tryd.prog 12 #[.string s, .string ⟨#[32, 9, 10]⟩] w fun e w' => e = .returned (.string ⟨(Lib.trimRightS s.data.toList [32, 9, 10]).toArray⟩) ∧ Below w.heap.size w w' :=
  Any.strings_TrimRight_laid Tryd.lays162 Tryd.setZero2 s ⟨#[32, 9, 10]⟩ w (by omega) (by decide) (ascii_of_all (by decide))

set_option maxHeartbeats 1000000 in
theorem mcomment_any (s : ByteArray) (a b : Bool) (hs : s.size ≤ 140737488355328) (w : World) :
    Calls Tryd.prog 22 #[.agg #[.string s, .bool a, .bool b]] w fun e w' => e = .returned (.bool (commentA s.data.toList)) ∧ Below w.heap.size w w' := by
  have HC : Hid (commentA s.data.toList = (decide (4 ≤ s.size) && Lib.hasPrefix s.data.toList [47, 42] && Lib.hasSuffix s.data.toList [42, 47])) := by
    show _ = _
    unfold commentA
    rw [Lib.size_eq]
  have hcell : ∀ k v, #[Value.string s, .bool a, .bool b][k]? = some v → (w.alloc (.cells #[.string s, .bool a, .bool b] 36)).cell? ⟨w.heap.size, k, none⟩ = some v := fun k v h => by
    rw [World.cell?_alloc_new]; exact h
  have k0 := hcell 0 _ rfl
  clear hcell
  have hv := Lib.hid ((Below.refl w.heap.size w).alloc (Nat.le_refl _) (.cells #[.string s, .bool a, .bool b] 36))
  by_cases hl : 4 ≤ s.size
  · cases hp : Lib.hasPrefix s.data.toList [47, 42] with
    | false =>
      have HP := Lib.hid hp
      clear hp
      go_enter Tryd.func22, Tryd.ntmps22
      go_wp2_with (go_at_call 32; refine (Tryd.strings_HasPrefix _ _ _).mono ?_; rintro e w1 ⟨he, rfl⟩; rw [HP.out] at he; subst he)
      go_ret
      exact ⟨ret_bool (by rw [HC.out, HP.out]; simp), hv.out⟩
    | true =>
      have HP := Lib.hid hp
      clear hp
      cases hq : Lib.hasSuffix s.data.toList [42, 47] with
      | false =>
        have HQ := Lib.hid hq
        clear hq
        go_enter Tryd.func22, Tryd.ntmps22
        go_wp2_with (first
          | (go_at_call 32; refine (Tryd.strings_HasPrefix _ _ _).mono ?_; rintro e w1 ⟨he, rfl⟩; rw [HP.out] at he; subst he)
          | (go_at_call 9; refine (Tryd.strings_HasSuffix _ _ _ (by omega)).mono ?_; rintro e w1 ⟨he, rfl⟩; rw [HQ.out] at he; subst he))
        go_ret
        exact ⟨ret_bool (by rw [HC.out, HQ.out]; simp), hv.out⟩
      | true =>
        have HQ := Lib.hid hq
        clear hq
        go_enter Tryd.func22, Tryd.ntmps22
        go_wp2_with (first
          | (go_at_call 32; refine (Tryd.strings_HasPrefix _ _ _).mono ?_; rintro e w1 ⟨he, rfl⟩; rw [HP.out] at he; subst he)
          | (go_at_call 9; refine (Tryd.strings_HasSuffix _ _ _ (by omega)).mono ?_; rintro e w1 ⟨he, rfl⟩; rw [HQ.out] at he; subst he))
        go_ret
        exact ⟨ret_bool (by rw [HC.out, HP.out, HQ.out]; simp [hl]), hv.out⟩
  · go_enter Tryd.func22, Tryd.ntmps22
    go_wp2_with fail
    go_ret
    exact ⟨ret_bool (by rw [HC.out]; simp [hl]), hv.out⟩

theorem readA_dash : readA [45] = ([], true, false) := by rw [readA, if_pos rfl]
theorem readA_more {l : List UInt8} (h : l ≠ [45]) : readA l = (Lib.trimS (Lib.trimSuffix (Lib.trimPrefix l [45, 32]) [32, 45]) [32, 9, 10], Lib.hasPrefix l [45, 32], Lib.hasSuffix (Lib.trimPrefix l [45, 32]) [32, 45]) := by rw [readA, if_neg h]

theorem trimPrefix_le (l p : List UInt8) : (Lib.trimPrefix l p).length ≤ l.length := by
  unfold Lib.trimPrefix
  split <;> simp
theorem trimSuffix_le (l p : List UInt8) : (Lib.trimSuffix l p).length ≤ l.length := by
  unfold Lib.trimSuffix
  split <;> simp

set_option maxHeartbeats 1000000 in
theorem mread_any (s : ByteArray) (hs : s.size ≤ 140737488355328) (w : World) :
    Calls Tryd.prog 21 #[.string s] w fun e w' => e = .returned (.agg #[.string ⟨(readA s.data.toList).1.toArray⟩, .bool (readA s.data.toList).2.1, .bool (readA s.data.toList).2.2]) ∧ Below w.heap.size w w' := by
  have hact : ∃ d, Tryd.prog.underlying 36 = some d ∧ (match d with | .struct _ | .array _ _ => true | _ => false) = true := ⟨_, Tryd.underlying36, rfl⟩
  obtain ⟨dd, hu, hdd⟩ := hact
  have hsz : (Tryd.prog.info? 36).map (·.size) = some 3 := by kernel_rfl
  have DD := Lib.hid hdd
  have HU := Lib.hid hu
  have HZ := Lib.hid hsz
  clear hdd hu hsz
  by_cases h45 : s = ⟨#[45]⟩
  · subst h45
    have e : (⟨#[45]⟩ : ByteArray).data.toList = [45] := rfl
    rw [e, readA_dash]
    go_enter Tryd.func21, Tryd.ntmps21
    go_wp2_with fail
    refine ret_cells0 w.heap.size [.string ⟨#[]⟩, .bool true, .bool false] Tryd.results21 rfl rfl DD.out HU.out HZ.out (fun i hi => ?_) ?_
    · rw [World.cell?_alloc_lt _ _ _ (by simp), World.cell?_alloc_new]
      exact Array.getElem?_eq_getElem (show i < 3 from hi)
    · exact ⟨rfl, bbox (bbox (Below.refl _ _) _ (Nat.le_refl _)) _ (by simp)⟩
  · have hne : (s.toList == [45]) = false := by
      have := str_ne h45
      rw [Lib.toList_data ⟨#[45]⟩] at this
      exact this
    have hl : s.data.toList ≠ [45] := fun e => h45 (by rw [← Lib.mk_data s, e])
    rw [readA_more hl]
    have HS1 : Hid ((⟨(Lib.trimPrefix s.data.toList [45, 32]).toArray⟩ : ByteArray).size ≤ 9223372036854775807) := by
      show _ ≤ _
      have := trimPrefix_le s.data.toList [45, 32]
      rw [Lib.size_eq] at hs ⊢
      simp only
      omega
    have HS2 : Hid ((⟨(Lib.trimSuffix (Lib.trimPrefix s.data.toList [45, 32]) [32, 45]).toArray⟩ : ByteArray).size ≤ 140737488355328) := by
      show _ ≤ _
      have := trimPrefix_le s.data.toList [45, 32]
      have := trimSuffix_le (Lib.trimPrefix s.data.toList [45, 32]) [32, 45]
      rw [Lib.size_eq] at hs ⊢
      simp only
      omega
    go_enter Tryd.func21, Tryd.ntmps21
    go_wp2_with (first
          | (go_at_call 33; refine (Tryd.strings_CutPrefix _ _ _).mono ?_; rintro e w1 ⟨rfl, rfl⟩)
          | (go_at_call 34; refine (Tryd.strings_CutSuffix _ _ _ HS1.out).mono ?_; rintro e w1 ⟨rfl, rfl⟩)
          | (go_at_call 35; refine (trim_any _ _ HS2.out).mono ?_; rintro e w3 ⟨rfl, hb3⟩
             obtain ⟨x0, x1, f1, f0⟩ := two_boxes hb3 (by simp)
             have HB3 := Lib.hid hb3
             have c0 := x1 0
             have c1 := x1 1
             have c2 := x1 2
             have d0 := x0 0
             have d1 := x0 1
             have d2 := x0 2
             simp at c0 c1 c2 d0 d1 d2
             clear x0 x1 hb3))
    refine ret_cells (w3.setCell ⟨w.heap.size + 1, 0, none⟩ (.string ⟨(Lib.trimS (Lib.trimSuffix (Lib.trimPrefix s.data.toList [45, 32]) [32, 45]) [32, 9, 10]).toArray⟩)) w.heap.size [.string ⟨(Lib.trimS (Lib.trimSuffix (Lib.trimPrefix s.data.toList [45, 32]) [32, 45]) [32, 9, 10]).toArray⟩, .bool (Lib.hasPrefix s.data.toList [45, 32]), .bool (Lib.hasSuffix (Lib.trimPrefix s.data.toList [45, 32]) [32, 45])] rfl Tryd.results21 rfl rfl DD.out HU.out HZ.out (fun i hi => ?_) ?_
    · have hi3 : i = 0 ∨ i = 1 ∨ i = 2 := by simp at hi; omega
      rw [World.cell?_setCell_other _ _ _ _ (by intro e; simp at e)]
      rcases hi3 with rfl | rfl | rfl
      · exact ⟨_, d0⟩
      · exact ⟨_, d1⟩
      · exact ⟨_, d2⟩
    · exact ⟨rfl, setRow_below _ (Nat.le_refl _) _ _ _ (Below.setCell ((bbox (bbox (Below.refl _ _) _ (Nat.le_refl _)) _ (by simp)).trans (HB3.out.mono (by simp; omega))) (by simp) _)⟩

end Go.Proofs.YtomdkmhaohcofaaDoor
