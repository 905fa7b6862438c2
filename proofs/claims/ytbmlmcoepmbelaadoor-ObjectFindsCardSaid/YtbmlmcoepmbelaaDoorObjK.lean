/-
  IDs of objects: words, Key, Rank, Right, Compare, and the reference's.
-/
import Derived.Test.YtbmlmcoepmbelaaDoorObjP
import Derived.Test.YtbmlmcoepmbelaaDoorMapTopM
import Derived.Test.YtbmlmcoepmbelaaDoorRBare
import Derived.Test.YtbmlmcoepmbelaaDoorShelf
import Derived.Laws.Rows
import Derived.Deep.DeepCutAuto
set_option linter.unusedVariables false
set_option linter.unusedSimpArgs false
namespace Go.Proofs.YtbmlmcoepmbelaaDoor
open Go.RowKit

abbrev idA (k p n : ByteArray) : Array Value := #[.string k, .string p, .string n]

theorem Tryd.structI : ∃ d, Tryd.prog.underlying 65 = some d ∧ (match d with | .struct _ | .array _ _ => true | _ => false) = true := ⟨_, Tryd.underlying65, rfl⟩
theorem Tryd.sizeI : (Tryd.prog.info? 65).map (·.size) = some 3 := by kernel_rfl

theorem owords_any (k p n : ByteArray) (w : World) :
    Calls Tryd.prog 33 #[.agg #[.string k, .string p, .string n]] w fun e w' => e = .returned (.agg #[.string k, .string p, .string n]) ∧ Below w.heap.size w w' := by
  go_enter Tryd.func33, Tryd.ntmps33
  go_wp2_with fail
  obtain ⟨dd, hu, hdd⟩ := Tryd.structI
  refine ret_read (w.heap.size + 1) #[.string k, .string p, .string n] Tryd.results33 rfl rfl hdd hu Tryd.sizeI (fun i hi => ?_) ?_
  · rw [show w.heap.size + 1 = (w.alloc (.cells #[.string k, .string p, .string n] 29)).heap.size by simp, World.cell?_alloc_new]
    exact Array.getElem?_eq_getElem hi
  · exact ⟨rfl, ((Below.refl _ _).alloc (Nat.le_refl _) _).alloc (by simp) _⟩

theorem oKey_any (k p n : ByteArray) (hk : k.size ≤ 140737488355328) (hp : p.size ≤ 140737488355328) (hn : n.size ≤ 140737488355328) (w : World) :
    Calls Tryd.prog 12 #[.agg #[.string k, .string p, .string n]] w fun e w' => e = .returned (.string (keyO k p n)) ∧ Below w.heap.size w w' := by
  have z1 : (⟨#[47]⟩ : ByteArray).size = 1 := rfl
  have s1 : (k ++ (⟨#[47]⟩ : ByteArray)).size ≤ 140737488355329 := by rw [ByteArray.size_append]; omega
  have s2 : ((k ++ (⟨#[47]⟩ : ByteArray)) ++ p).size ≤ 281474976710657 := by rw [ByteArray.size_append]; omega
  have s3 : (((k ++ (⟨#[47]⟩ : ByteArray)) ++ p) ++ (⟨#[47]⟩ : ByteArray)).size ≤ 281474976710658 := by rw [ByteArray.size_append]; omega
  go_enter Tryd.func12, Tryd.ntmps12
  go_wp2_with fail
  go_ret
  exact ⟨rfl, (Below.refl _ _).alloc (Nat.le_refl _) _⟩

/-! ### Rank -/

/-- The table of ranks lies in the world. -/
def RankTab (w : World) : Prop := ∃ t fr, w.heap[0]? = some (.cells #[.string (rankAt 0), .string (rankAt 1), .string (rankAt 2), .string (rankAt 3), .string (rankAt 4), .string (rankAt 5), .string (rankAt 6), .string (rankAt 7), .string (rankAt 8), .string (rankAt 9)] t fr)
theorem RankTab.later {w w' : World} (h : RankTab w) {B : Nat} (hb : Below B w w') (hB : 0 < B) : RankTab w' := by
  obtain ⟨t, fr, h⟩ := h
  exact ⟨t, fr, (hb.block _ hB).trans h⟩
theorem RankTab.lt {w : World} (h : RankTab w) : 0 < w.heap.size := by
  obtain ⟨t, fr, h⟩ := h
  exact (Array.getElem?_eq_some_iff.1 h).1
def rankV : Array Value := #[.string (rankAt 0), .string (rankAt 1), .string (rankAt 2), .string (rankAt 3), .string (rankAt 4), .string (rankAt 5), .string (rankAt 6), .string (rankAt 7), .string (rankAt 8), .string (rankAt 9)]
theorem rank_index (j : Nat) (hj : j < 10) (w : World) : (Instr.index 71 (.agg rankV) (.int .i64 j)).run Tryd.prog w = .ok (.string (rankAt j)) w := by
  rcases (by omega : j = 0 ∨ j = 1 ∨ j = 2 ∨ j = 3 ∨ j = 4 ∨ j = 5 ∨ j = 6 ∨ j = 7 ∨ j = 8 ∨ j = 9) with rfl | rfl | rfl | rfl | rfl | rfl | rfl | rfl | rfl | rfl <;> kernel_rfl

set_option maxRecDepth 100000 in
theorem oRank_any (k : ByteArray) (w : World) (hw : RankTab w) : Calls Tryd.prog 19 #[.string k] w fun e w' => e = .returned (.int .i64 (rankO k)) ∧ w' = w := by
  obtain ⟨tt, fr, hg⟩ := hw
  change w.heap[0]? = some (.cells rankV tt fr) at hg
  have IX := Lib.hid rank_index
  have HA := Lib.hid (fun j => rank_at (k := k) (j := j))
  have HN := Lib.hid (rank_none (k := k))
  go_enter Tryd.func19, Tryd.ntmps19
  generalize rankV = A at *
  go_wp2_with (refine wpList_load_row rfl 71 _ rfl 0 rfl tt _ fr _ hg Tryd.underlying71 rfl (by kernel_rfl) ?_)
  go_loopw [6] (fun v6 wr => ∃ (j : Nat), j ≤ 10 ∧ v6 = .int .i64 j ∧ Hid (∀ i, i < j → rankAt i ≠ k) ∧ wr = w) (fun v6 _ => 10 - (intOf v6).toNat)
  case atStart => exact ⟨0, by omega, rfl, fun i hi => absurd hi (Nat.not_lt_zero i), rfl⟩
  case round =>
    obtain ⟨j, hj, rfl, hnn, rfl⟩ := hrel
    by_cases hj10 : j < 10
    · have ix : ∀ w, (Instr.index 71 (.agg A) (.int .i64 j)).run Tryd.prog w = .ok (.string (rankAt j)) w := fun w => IX.out j hj10 w
      have hl : decide ((j : Int) < 10) = true := by simp; omega
      by_cases he : rankAt j = k
      · have HR := Lib.hid (HA.out j hj10 he hnn.out)
        have hq : (k.toList == k.toList) = true := by simp
        rw [he] at ix
        clear he hnn HA HN IX
        go_wp2_with fail
        go_ret
        exact ⟨ret_int (by rw [HR.out]), rfl⟩
      · have hq := str_ne he
        have HS : Hid (∀ i, i < j + 1 → rankAt i ≠ k) := fun i hi => by
          by_cases e : i = j
          · rw [e]; exact he
          · exact hnn.out i (by omega)
        clear he hnn
        generalize rankAt j = nm at ix hq
        go_wp2_with fail
        go_roundw
        case rel => exact ⟨j + 1, by omega, by go_num, HS, trivial⟩
        case measure => simp [intOf]; omega
    · obtain rfl : j = 10 := by omega
      have HR := Lib.hid (HN.out hnn.out)
      clear hnn HA HN IX
      go_wp2_with fail
      go_ret
      exact ⟨ret_int (by rw [HR.out]; rfl), rfl⟩

end Go.Proofs.YtbmlmcoepmbelaaDoor
