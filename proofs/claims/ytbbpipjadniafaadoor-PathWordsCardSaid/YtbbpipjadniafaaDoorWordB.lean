/-
  Package path's words, Print; the library's search over texts by package path's word.
-/
import Derived.Test.YtbbpipjadniafaaDoorWordW
import Derived.Test.YtbbpipjadniafaaDoorTexts
set_option linter.unusedVariables false
set_option linter.unusedSimpArgs false
namespace Go.Proofs.YtbbpipjadniafaaDoor
open Go.RowKit

/-- The texts' bytes. -/
def datS (ks : List ByteArray) : List (List UInt8) := ks.map fun s => s.data.toList
/-- Are they all words? -/
def wordsK (ks : List ByteArray) : Bool := ks.all fun s => wordL s.data.toList
theorem words_upto {ks : List ByteArray} (h : ∀ i (hi : i < ks.length), wordL ks[i].data.toList = true) : wordsK ks = true := by
  unfold wordsK
  rw [List.all_eq_true]
  intro s hs
  obtain ⟨i, hi, rfl⟩ := List.getElem_of_mem hs
  exact h i hi
theorem words_not {ks : List ByteArray} (i : Nat) (hi : i < ks.length) (h : wordL ks[i].data.toList = false) : wordsK ks = false := by
  cases e : wordsK ks with
  | false => rfl
  | true =>
    unfold wordsK at e
    rw [List.all_eq_true] at e
    rw [e _ (List.getElem_mem hi)] at h
    cases h

set_option maxHeartbeats 1000000 in
theorem pwords1_any (s : ByteArray) (hs : s.size ≤ 140737488355328) (w : World) : Calls Tryd.prog 32 #[.string s] w fun e w' => e = .returned (.bool (!wordL s.data.toList)) ∧ Below w.heap.size w w' := by
  have HC := Lib.hid (pword_any s hs)
  go_enter Tryd.func32, Tryd.ntmps32
  go_wp2_with (go_at_call 33; refine (HC.out _).mono ?_; rintro e w1 ⟨rfl, hb1⟩)
  go_ret
  exact ⟨rfl, hb1⟩

set_option maxRecDepth 100000 in
set_option maxHeartbeats 2000000 in
theorem sIndexS_any {w0 : World} {ks : List ByteArray} {a : Option Addr} {c : Nat} (h : SliceS w0 ks a c) (w : World) (hw : Below w0.heap.size w0 w) :
    Calls Tryd.prog 45 #[.slice a ks.length c, .func (.func 32) #[] #[]] w fun e w' => (∃ r : Int, e = .returned (.int .i64 r) ∧ decide (0 ≤ r) = !wordsK ks) ∧ Below w.heap.size w w' := by
  have H := Lib.hid h
  have hl := h.le
  have hbig := h.big
  clear h
  go_enter Tryd.func45, Tryd.ntmps45
  go_wp2_with fail
  go_loopw [5, 8] (fun _ vi wr => ∃ j : Nat, j ≤ ks.length ∧ vi = .int .i64 j ∧ Hid (∀ i (hi : i < ks.length), i < j → wordL ks[i].data.toList = true) ∧ Hid (Below w.heap.size w wr)) (fun _ vi _ => ks.length - (intOf vi).toNat)
  case atStart => exact ⟨0, Nat.zero_le _, rfl, fun i hi h => absurd h (by omega), Below.refl _ _⟩
  case round =>
    obtain ⟨j, hj, rfl, HG, HB⟩ := hrel
    by_cases hjl : j < ks.length
    · obtain ⟨b, o, rfl⟩ := H.out.ofSome (by omega)
      have r0 := cells_frame (bstep hw HB.out hw.size) (H.out.cell j hjl b o rfl)
      have hs := H.out.sizes j hjl
      have HC := Lib.hid (pwords1_any ks[j] hs)
      cases hb : wordL ks[j].data.toList with
      | true =>
        have HV := Lib.hid hb
        clear hb
        go_wp2_with (go_at_call 32; refine (HC.out _).mono ?_; rintro e w1 ⟨he, hb1⟩; rw [HV.out] at he; subst he)
        have HG2 : Hid (∀ i (hi : i < ks.length), i < j + 1 → wordL ks[i].data.toList = true) := fun i hi h => by
          by_cases e : i = j
          · subst e; exact HV.out
          · exact HG.out i hi (by omega)
        have HB2 := Lib.hid (HB.out.trans (hb1.mono HB.out.size))
        clear hb1
        go_roundw
        case rel => exact ⟨j + 1, by omega, by go_num, HG2.out, HB2.out⟩
        case measure => simp [intOf]; omega
      | false =>
        have HV := Lib.hid hb
        clear hb
        go_wp2_with (go_at_call 32; refine (HC.out _).mono ?_; rintro e w1 ⟨he, hb1⟩; rw [HV.out] at he; subst he)
        have HB2 := Lib.hid (HB.out.trans (hb1.mono HB.out.size))
        clear hb1
        go_ret
        exact ⟨⟨j, rfl, by rw [words_not j hjl HV.out, decide_eq_true (by omega)]; rfl⟩, HB2.out⟩
    · have HA : Hid (wordsK ks = true) := words_upto fun i hi => HG.out i hi (by omega)
      go_wp2_with fail
      go_ret
      exact ⟨⟨-1, rfl, by rw [HA.out]; rfl⟩, HB.out⟩

set_option maxRecDepth 100000 in
set_option maxHeartbeats 1000000 in
theorem sContainsS_any {w0 : World} {ks : List ByteArray} {a : Option Addr} {c : Nat} (h : SliceS w0 ks a c) (w : World) (hw : Below w0.heap.size w0 w) :
    Calls Tryd.prog 31 #[.slice a ks.length c, .func (.func 32) #[] #[]] w fun e w' => e = .returned (.bool (!wordsK ks)) ∧ Below w.heap.size w w' := by
  have HC := Lib.hid (sIndexS_any h w hw)
  go_enter Tryd.func31, Tryd.ntmps31
  go_wp2_with (go_at_call 45; refine HC.out.mono ?_; rintro e w1 ⟨⟨r, rfl, hr⟩, hb1⟩)
  go_ret
  exact ⟨ret_bool (by rw [← hr]), hb1⟩

set_option maxRecDepth 100000 in
set_option maxHeartbeats 1000000 in
theorem pwords_any {w0 : World} {ks : List ByteArray} {a : Option Addr} {c : Nat} (h : SliceS w0 ks a c) (w : World) (hw : Below w0.heap.size w0 w) :
    Calls Tryd.prog 19 #[.slice a ks.length c] w fun e w' => e = .returned (.bool (wordsK ks)) ∧ Below w.heap.size w w' := by
  have HC := Lib.hid (sContainsS_any h w hw)
  obtain ⟨b, hb⟩ : ∃ b, b = wordsK ks := ⟨_, rfl⟩
  rw [← hb] at HC ⊢
  clear hb
  go_enter Tryd.func19, Tryd.ntmps19
  go_wp2_with (go_at_call 31; refine HC.out.mono ?_; rintro e w1 ⟨rfl, hb1⟩)
  go_ret
  exact ⟨ret_bool (by simp), hb1⟩

theorem words_len {ks : List ByteArray} (h : wordsK ks = true) : ∀ a ∈ datS ks, a.length ≤ 256 := by
  intro a ha
  obtain ⟨s, hs, rfl⟩ := List.mem_map.1 ha
  unfold wordsK at h
  rw [List.all_eq_true] at h
  exact (word_len (h s hs)).2
theorem words_dot {ks : List ByteArray} (h : wordsK ks = true) : ∀ a ∈ datS ks, (46 : UInt8) ∉ a := by
  intro a ha
  obtain ⟨s, hs, rfl⟩ := List.mem_map.1 ha
  unfold wordsK at h
  rw [List.all_eq_true] at h
  exact word_dot (h s hs)
/-- A path, written. -/
def printS (ks : List ByteArray) : ByteArray := if wordsK ks = true then ⟨(joinD (datS ks)).toArray⟩ else ⟨#[]⟩

set_option maxRecDepth 100000 in
set_option maxHeartbeats 1000000 in
theorem pPrint_any {w0 : World} {ks : List ByteArray} {a : Option Addr} {c : Nat} (h : SliceS w0 ks a c) (hn : ks.length ≤ 1000) (w : World) (hw : Below w0.heap.size w0 w) :
    Calls Tryd.prog 8 #[.slice a ks.length c] w fun e w' => e = .returned (.string (printS ks)) ∧ Below w.heap.size w w' := by
  have HC := Lib.hid (pwords_any h w hw)
  have hl := h.le
  cases hb : wordsK ks with
  | false =>
    have HP : Hid (printS ks = ⟨#[]⟩) := by show _ = _; unfold printS; rw [hb]; rfl
    rw [hb] at HC
    rw [HP.out]
    clear hb
    go_enter Tryd.func8, Tryd.ntmps8
    go_wp2_with (go_at_call 19; refine HC.out.mono ?_; rintro e w1 ⟨rfl, hb1⟩)
    go_ret
    exact ⟨rfl, hb1⟩
  | true =>
    have HP : Hid (printS ks = ⟨(joinD (datS ks)).toArray⟩) := by show _ = _; unfold printS; rw [hb]; rfl
    rw [hb] at HC
    rw [HP.out]
    have hlen := joinD_len (datS ks) (words_len hb)
    rw [show (datS ks).length = ks.length by unfold datS; rw [List.length_map]] at hlen
    have HJ : Hid (∀ w1, Below w.heap.size w w1 → Calls Tryd.prog 20 #[.slice a ks.length c, .string ⟨#[46]⟩] w1 fun e w' => e = .returned (.string ⟨(joinD (datS ks)).toArray⟩) ∧ Below w1.heap.size w1 w') := fun w1 hb1 => by
      by_cases h0 : ks.length = 0
      · obtain rfl : ks = [] := List.eq_nil_of_length_eq_zero h0
        exact (Tryd.strings_Join_none a c ⟨#[46]⟩ w1).mono fun e w' ⟨he, hw'⟩ => ⟨he, hw' ▸ Below.refl _ _⟩
      · obtain ⟨b, o, rfl⟩ := h.ofSome (by omega)
        have hcell : ∀ (j : Nat) x, ks[j]? = some x → w1.cell? ⟨b, o + j, none⟩ = some (.string x) := fun j x hx => by
          obtain ⟨hj, rfl⟩ := List.getElem?_eq_some_iff.1 hx
          exact cells_frame (bstep hw hb1 hw.size) (h.cell j hj b o rfl)
        have hbk := World.block_lt_of_cell? _ _ (hcell 0 _ (List.getElem?_eq_getElem (by omega)))
        exact Tryd.strings_Join b o c ks ⟨#[46]⟩ w1 hcell hbk (by omega) hl (by show (joinD (datS ks)).length ≤ _; omega)
    clear hb hlen
    go_enter Tryd.func8, Tryd.ntmps8
    go_wp2_with (first
      | (go_at_call 19; refine HC.out.mono ?_; rintro e w1 ⟨rfl, hb1⟩)
      | (go_at_call 20; refine (HJ.out _ hb1).mono ?_; rintro e w2 ⟨rfl, hb2⟩))
    go_ret
    exact ⟨rfl, hb1.trans (hb2.mono hb1.size)⟩
end Go.Proofs.YtbbpipjadniafaaDoor
