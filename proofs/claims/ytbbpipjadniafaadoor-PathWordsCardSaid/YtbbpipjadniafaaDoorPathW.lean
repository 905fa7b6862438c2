/-
  Package path's with.
-/
import Derived.Test.YtbbpipjadniafaaDoorPathF
import Derived.Test.YtbbpipjadniafaaDoorPut
import Derived.Test.YtbbpipjadniafaaDoorMakes
import Derived.Test.YtbbpipjadniafaaDoorSpecs
set_option linter.unusedVariables false
set_option linter.unusedSimpArgs false
namespace Go.Proofs.YtbbpipjadniafaaDoor
open Go.RowKit

theorem NewMap.keep {w w' : World} {base : Nat} {ps : List (ByteArray × T)} {ds : Array Value} (h : NewMap w base ps ds) (hz : w.heap.size ≤ w'.heap.size) (hk : ∀ b, base ≤ b → b < w.heap.size → w'.heap[b]? = w.heap[b]?) : NewMap w' base ps ds := by
  obtain ⟨a, cap, dl, e, hS, hM⟩ := h
  exact ⟨a, cap, dl, e, hS.keepB hk, hM.keep hz hk⟩
theorem setRow_high (g : Nat) : ∀ (vs : List Value) (W : World) (o i : Nat), o + vs.length ≤ i → (setRow W g o vs).cell? ⟨g, i, none⟩ = W.cell? ⟨g, i, none⟩
  | [], _, _, _, _ => rfl
  | v :: r, W, o, i, h => by
    rw [List.length_cons] at h
    rw [setRow, setRow_high g r _ (o + 1) i (by omega), World.cell?_setCell_other _ _ _ _ (by intro e; simp at e; try omega)]

/-- A slice of pairs, its own, one value of which was laid anew. -/
theorem laid_at {w : World} {S : Nat → Prop} {ps : List (ByteArray × T)} {bl ol cap : Nat} {dl : Nat → Array Value} (hS : SliceP w S ps (some ⟨bl, ol, none⟩) cap dl) (hM : ∀ i (h : i < ps.length), Lies w (fun b => S b ∧ b ≠ bl) ps[i].2 (dl i)) (j : Nat) (hj : j < ps.length) (key : ByteArray) (y x : T) (hy : ps[j]? = some (key, y)) (es : List Value) (h6 : es.length = 6)
    (hx : Lies w (fun b => S b ∧ b ≠ bl) x es.toArray) : SliceP (setRow w bl (ol + j * 7 + 1) es) S (ps.set j (key, x)) (some ⟨bl, ol, none⟩) cap (fun i => if i = j then es.toArray else dl i) := by
  have hyj : ps[j] = (key, y) := by rw [List.getElem?_eq_getElem hj] at hy; exact Option.some.inj hy
  refine ⟨⟨by rw [List.length_set]; exact hS.hdr.le, by rw [List.length_set]; exact hS.hdr.big, hS.hdr.none, fun hp => hS.hdr.some (by rw [List.length_set] at hp; exact hp), hS.hdr.max⟩, fun i hi bm om e k hk => ?_, fun i hi => ?_, fun i hi => ?_⟩
  · simp only [Option.some.injEq, Addr.mk.injEq, and_true] at e
    obtain ⟨rfl, rfl⟩ := e
    have hi2 : i < ps.length := by rw [List.length_set] at hi; exact hi
    have hr := hS.rows i hi2 bl ol rfl
    by_cases hij : i = j
    · subst hij
      have e0 : (ps.set i (key, x))[i]'(by rw [List.length_set]; exact hi2) = (key, x) := by simp
      have hk7 : k < 7 := by
        have hk2 := hk
        simp only [e0, if_pos rfl] at hk2
        simp [h6] at hk2
        omega
      have d7 : (dl i).size = 6 := (hM i hi2).size6
      by_cases hk0 : k = 0
      · subst hk0
        rw [setRow_low _ _ _ _ _ (by omega)]
        have := hr 0 (by simp; try omega)
        rw [this]
        simp [hyj]
      · obtain ⟨q, rfl⟩ : ∃ q, k = q + 1 := ⟨k - 1, by omega⟩
        have h := setRow_cell bl es w (ol + i * 7 + 1) (fun p hp => by
          have := hr (p + 1) (by simp [d7]; omega)
          rw [show ol + i * 7 + 1 + p = ol + i * 7 + (p + 1) by omega]
          exact ⟨_, this⟩) q (by omega)
        rw [show ol + i * 7 + (q + 1) = ol + i * 7 + 1 + q by omega, h]
        simp
    · have e0 : (ps.set j (key, x))[i]'(by rw [List.length_set]; exact hi2) = ps[i] := by rw [List.getElem_set_ne (by omega)]
      have d7 : (dl i).size = 6 := (hM i hi2).size6
      have hk7 : k < 7 := by
        have hk2 := hk
        simp only [if_neg hij] at hk2
        simp [d7] at hk2
        omega
      have hc := hr k (by simp [d7]; omega)
      have hcell : (setRow w bl (ol + j * 7 + 1) es).cell? ⟨bl, ol + i * 7 + k, none⟩ = w.cell? ⟨bl, ol + i * 7 + k, none⟩ := by
        by_cases hlt : ol + i * 7 + k < ol + j * 7 + 1
        · exact setRow_low _ _ _ _ _ hlt
        · refine setRow_high _ _ _ _ _ ?_
          rw [h6]
          rcases Nat.lt_or_gt_of_ne hij with h | h <;> omega
      rw [hcell, hc]
      simp only [if_neg hij, e0]
  · have hi2 : i < ps.length := by rw [List.length_set] at hi; exact hi
    by_cases hij : i = j
    · subst hij
      have := hS.keys i hi2
      rw [hyj] at this
      simpa using this
    · rw [List.getElem_set_ne (by omega)]
      exact hS.keys i hi2
  · have hi2 : i < ps.length := by rw [List.length_set] at hi; exact hi
    by_cases hij : i = j
    · subst hij
      simp only [if_pos rfl, List.getElem_set_self]
      exact ((hx.keepB (w' := setRow w bl (ol + i * 7 + 1) es) (fun b hb _ => setRow_heap _ _ _ _ _ hb.2)).weaken fun b hb => hb.1.1)
    · simp only [if_neg hij]
      rw [List.getElem_set_ne (by omega)]
      exact (((hM i hi2).keepB (w' := setRow w bl (ol + j * 7 + 1) es) (fun b hb _ => setRow_heap _ _ _ _ _ hb.2)).weaken fun b hb => hb.1.1)

end Go.Proofs.YtbbpipjadniafaaDoor
