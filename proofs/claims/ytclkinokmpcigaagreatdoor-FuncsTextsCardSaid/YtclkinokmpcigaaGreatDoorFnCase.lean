/-
  Package funcs' otherCase: a text's letters from one to another in the other case.
-/
import Derived.Test.YtclkinokmpcigaaGreatDoorBytes
import Derived.Lib.ConvBytes
import Derived.Lib.SmallJoins
import Derived.Laws.BitsAllLaws
import Derived.Laws.IdiomStrings
set_option linter.unusedVariables false
set_option linter.unusedSimpArgs false
namespace Go.Proofs.YtclkinokmpcigaaGreatDoor
open Go.RowKit

/-- A byte in the other case, if it is one from one to another. -/
def caseB (lo hi b : UInt8) : UInt8 := if lo.toNat ≤ b.toNat ∧ b.toNat ≤ hi.toNat then b ^^^ 32 else b
def mixL (lo hi : UInt8) (l : List UInt8) (j : Nat) : List UInt8 := (l.take j).map (caseB lo hi) ++ l.drop j
theorem mixL_len (lo hi : UInt8) (l : List UInt8) (j : Nat) : (mixL lo hi l j).length = l.length := by
  simp only [mixL, List.length_append, List.length_map, List.length_take, List.length_drop]
  omega
theorem mixL_zero (lo hi : UInt8) (l : List UInt8) : mixL lo hi l 0 = l := by simp [mixL]
theorem mixL_all (lo hi : UInt8) (l : List UInt8) {j : Nat} (h : l.length ≤ j) : mixL lo hi l j = l.map (caseB lo hi) := by simp [mixL, List.take_of_length_le h, List.drop_of_length_le h]
theorem mixL_here (lo hi : UInt8) {l : List UInt8} {j : Nat} {b : UInt8} (h : l[j]? = some b) : (mixL lo hi l j)[j]? = some b := by
  obtain ⟨hj, _⟩ := List.getElem?_eq_some_iff.1 h
  rw [mixL, List.getElem?_append_right (by simp; omega)]
  simp only [List.length_map, List.length_take]
  rw [show j - min j l.length = 0 by omega, List.getElem?_drop, Nat.add_zero]
  exact h
theorem mixL_step (lo hi : UInt8) {l : List UInt8} {j : Nat} {b : UInt8} (h : l[j]? = some b) : mixL lo hi l (j + 1) = (mixL lo hi l j).set j (caseB lo hi b) := by
  obtain ⟨hj, rfl⟩ := List.getElem?_eq_some_iff.1 h
  have e : (l.take j).length = j := by simp; omega
  rw [mixL, mixL, List.set_append_right _ _ (by simp; omega), List.take_succ_eq_append_getElem hj, List.map_append, List.append_assoc]
  congr 1
  rw [List.length_map, e, Nat.sub_self, List.drop_eq_getElem_cons hj]
  rfl
theorem set_self' {l : List UInt8} {j : Nat} {b : UInt8} (h : l[j]? = some b) : l.set j b = l := by
  obtain ⟨hj, rfl⟩ := List.getElem?_eq_some_iff.1 h
  exact List.set_getElem_self hj
theorem mixL_same (lo hi : UInt8) {l : List UInt8} {j : Nat} {b : UInt8} (h : l[j]? = some b) (hb : caseB lo hi b = b) : mixL lo hi l (j + 1) = mixL lo hi l j := by
  rw [mixL_step lo hi h, hb]
  have := mixL_here lo hi h
  exact set_self' this

/-- A text's bytes, in a block of one's own. -/
def CaseIn (g : Nat) (wr : World) (l : List UInt8) : Prop := ∃ cs m, wr.heap[g]? = some (.cells cs 5 (m, m + 1)) ∧ cs.size ≤ m ∧ l.length ≤ cs.size ∧ ∀ j (h : j < l.length), cs[j]? = some (.int .u8 (l[j].toNat : Int))
theorem CaseIn.cell {g : Nat} {wr : World} {l : List UInt8} (h : CaseIn g wr l) (j : Nat) {b : UInt8} (hj : l[j]? = some b) : wr.cell? ⟨g, j, none⟩ = some (.int .u8 (b.toNat : Int)) := by
  obtain ⟨cs, m, hg, _, _, hc⟩ := h
  obtain ⟨hj2, rfl⟩ := List.getElem?_eq_some_iff.1 hj
  rw [← hc j hj2]
  simp [World.cell?, hg]
theorem CaseIn.thawed {g : Nat} {wr : World} {l : List UInt8} (h : CaseIn g wr l) (j : Nat) (hj : j < l.length) : wr.frozen? ⟨g, j, none⟩ = false := by
  obtain ⟨cs, m, hg, h1, h2, hc⟩ := h
  simp [World.frozen?, hg]
  omega
theorem CaseIn.set {g : Nat} {wr : World} {l : List UInt8} (h : CaseIn g wr l) (j : Nat) (b : UInt8) (hj : j < l.length) : CaseIn g (wr.setCell ⟨g, j, none⟩ (.int .u8 (b.toNat : Int))) (l.set j b) := by
  obtain ⟨cs, m, hg, h1, h2, hc⟩ := h
  refine ⟨_, m, Joins.block_setCell hg _, by simpa using h1, by simpa using h2, fun i hi => ?_⟩
  have hi' : i < l.length := by simpa using hi
  rw [Array.getElem?_setIfInBounds]
  by_cases e : j = i
  · subst e
    rw [if_pos rfl, if_pos (by omega), List.getElem_set_self]
  · rw [if_neg e, hc i hi', List.getElem_set_ne e]
theorem CaseIn.start (w : World) (s : ByteArray) : CaseIn w.heap.size (Lib.bytesWorld w 5 s) s.data.toList := by
  refine ⟨_, _, Lib.bytesWorld_at_new w 5 s, Nat.le_refl _, ?_, fun j h => ?_⟩
  · simp only [Lib.bytesCells, Array.size_append, Array.size_map]
    rw [← Lib.size_eq]
    exact Nat.le_add_right _ _
  · have hs : j < s.size := by rw [Lib.size_eq]; exact h
    have := Lib.bytesWorld_cell w 5 s j hs
    rw [World.cell?, Lib.bytesWorld_at_new] at this
    refine Eq.trans this ?_
    simp [List.getD, List.getElem?_eq_getElem h]
theorem bytes_below (w : World) (s : ByteArray) : Below w.heap.size w (Lib.bytesWorld w 5 s) :=
  ⟨by simp [Lib.bytesWorld, World.freeze, World.alloc, World.drew, -World.alloc_eq, -World.drew_eq], by simp [Lib.bytesWorld, World.freeze, World.alloc, World.drew, -World.alloc_eq, -World.drew_eq], by simp [Lib.bytesWorld, World.freeze, World.alloc, World.drew, -World.alloc_eq, -World.drew_eq], by rw [Lib.bytesWorld_size]; omega, fun k hk => Lib.bytesWorld_at_old w 5 s k hk⟩
theorem CaseIn.back {g : Nat} {wr : World} {l : List UInt8} (h : CaseIn g wr l) (c : Nat) : (convert 62 9 (.slice (some ⟨g, 0, none⟩) l.length c)).run Tryz.prog wr = .ok (.string ⟨l.toArray⟩) wr := by
  refine run_convert_bytes_back (P := Tryz.prog) wr 62 9 5 ⟨g, 0, none⟩ c l Tryz.underlying62 Tryz.underlying5 Tryz.underlying9 fun j hj => ?_
  rw [Addr.add_lit, Nat.zero_add]
  exact h.cell j (List.getElem?_eq_getElem hj)

set_option maxHeartbeats 1000000 in
theorem fother_any (s : ByteArray) (lo hi : UInt8) (hs : s.size ≤ 1000000000000) (w : World) :
    Calls Tryz.prog 47 #[.string s, .int .u8 lo.toNat, .int .u8 hi.toNat] w fun e w' => e = .returned (.string ⟨(s.data.toList.map (caseB lo hi)).toArray⟩) ∧ Below w.heap.size w w' := by
  have hlo := lo.toNat_lt
  have hhi := hi.toNat_lt
  have hcv := Lib.run_convert_string_bytes (P := Tryz.prog) w 9 62 5 s (u := .string) Tryz.underlying9 Tryz.underlying62 Tryz.underlying5
  have HC := Lib.hid (CaseIn.start w s)
  have HB := Lib.hid (bytes_below w s)
  generalize Lib.bytesWorld w 5 s = v at hcv HC HB
  generalize grownCap w s.size 0 5 = cap at hcv
  go_enter Tryz.func47, Tryz.ntmps47
  go_wp2_with fail
  go_loopw [14] (fun vi wr => ∃ j : Nat, j ≤ s.size ∧ vi = .int .i64 j ∧ Hid (CaseIn w.heap.size wr (mixL lo hi s.data.toList j)) ∧ Hid (Below w.heap.size w wr)) (fun vi _ => s.size - (intOf vi).toNat)
  case atStart => exact ⟨0, Nat.zero_le _, rfl, by show CaseIn _ _ _; rw [mixL_zero]; exact HC.out, HB⟩
  case round =>
    obtain ⟨j, hj, rfl, HI, HBL⟩ := hrel
    have hsz := Lib.size_eq s
    by_cases hjl : j < s.size
    · obtain ⟨b, hb⟩ : ∃ b, s.data.toList[j]? = some b := ⟨_, List.getElem?_eq_getElem (by omega)⟩
      have hc := HI.out.cell j (mixL_here lo hi hb)
      have hf := HI.out.thawed j (by rw [mixL_len, ← hsz]; exact hjl)
      have hbt := b.toNat_lt
      have HX := Lib.hid hb
      have HSZ := Lib.hid hsz
      clear hb hsz
      by_cases h1 : lo.toNat ≤ b.toNat
      · by_cases h2 : b.toNat ≤ hi.toNat
        · have hx : bits .xor .u8 (b.toNat : Int) 32 = ((b ^^^ 32).toNat : Int) := by
            have := u8_xor_nat b.toNat 32 hbt (by decide)
            rw [UInt8.toNat_xor]
            exact this
          go_wp2_with fail
          go_roundw
          case rel => exact ⟨j + 1, by omega, by go_num, by
            show CaseIn _ _ _
            rw [mixL_step lo hi HX.out, caseB, if_pos ⟨h1, h2⟩]
            have k := HI.out.set j (b ^^^ 32) (by rw [mixL_len, ← HSZ.out]; exact hjl)
            rw [UInt8.toNat_xor] at k
            exact k, by
            show Below _ _ _
            exact HBL.out.setCell (Nat.le_refl _) _⟩
          case measure => simp [intOf]; omega
        · go_wp2_with fail
          go_roundw
          case rel => exact ⟨j + 1, by omega, by go_num, by
            show CaseIn _ _ _
            rw [mixL_same lo hi HX.out (by rw [caseB, if_neg (by omega)])]
            exact HI.out, HBL⟩
          case measure => simp [intOf]; omega
      · go_wp2_with fail
        go_roundw
        case rel => exact ⟨j + 1, by omega, by go_num, by
          show CaseIn _ _ _
          rw [mixL_same lo hi HX.out (by rw [caseB, if_neg (by omega)])]
          exact HI.out, HBL⟩
        case measure => simp [intOf]; omega
    · have hlen : s.size = (mixL lo hi s.data.toList j).length := by rw [mixL_len]; exact hsz
      have hback := HI.out.back cap
      rw [← hlen, mixL_all lo hi _ (by omega)] at hback
      clear hsz hlen HI
      generalize hr : (⟨(s.data.toList.map (caseB lo hi)).toArray⟩ : ByteArray) = r at hback
      have HR := Lib.hid hr
      clear hr
      go_wp2_with fail
      go_ret
      exact ⟨congrArg (fun x => Ending.returned (Value.string x)) HR.out.symm, HBL.out⟩

end Go.Proofs.YtclkinokmpcigaaGreatDoor
