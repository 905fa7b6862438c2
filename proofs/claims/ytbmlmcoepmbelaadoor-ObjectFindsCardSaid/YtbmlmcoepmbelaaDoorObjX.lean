/-
  slices.Clone over objects.
-/
import Derived.Test.YtbmlmcoepmbelaaDoorObjW
import Derived.Test.YtbmlmcoepmbelaaDoorMap
set_option linter.unusedVariables false
set_option linter.unusedSimpArgs false
namespace Go.Proofs.YtbmlmcoepmbelaaDoor
open Go.RowKit Go.Sort

theorem Tryd.infoO : (Tryd.prog.info? 31).map (fun i => (i.zero, i.size, i.bytes)) = some (some (.agg #[.string ⟨#[]⟩, .string ⟨#[]⟩, .string ⟨#[]⟩, .int .i64 0, .bool false, .int .i64 0, .string ⟨#[]⟩, .slice none 0 0, .slice none 0 0]), 9, 136) := by kernel_rfl

/-- All objects' cells, as rows. -/
def rowsO (os : List Ob) : List (Array Value) := os.map fun o => (encO o.1).toArray
def flatO (os : List Ob) : List Value := (rowsO os).flatMap Array.toList
theorem rowsO_nine (os : List Ob) : ∀ d ∈ rowsO os, d.size = 9 := fun d hd => by
  obtain ⟨o, _, rfl⟩ := List.mem_map.1 hd
  rfl
theorem flatO_len (os : List Ob) : (flatO os).length = os.length * 9 := by
  unfold flatO
  rw [flat_len _ (rowsO_nine os)]
  simp [rowsO]
theorem rowsO_get (os : List Ob) (i : Nat) (hi : i < (rowsO os).length) : (rowsO os)[i] = (encO (os[i]'(by simpa [rowsO] using hi)).1).toArray := by simp [rowsO]
theorem flatO_one (os : List Ob) : ∀ u ∈ flatO os, u.oneCell' = true := fun u hu => by
  obtain ⟨d, hd, hu⟩ := List.mem_flatMap.1 hu
  obtain ⟨o, _, rfl⟩ := List.mem_map.1 hd
  exact encO_one o.1 u hu
theorem flatO_cells {w : World} {R : Nat → Prop} {os : List Ob} {ad : Addr} {cap : Nat} (h : SliceO w R os (some ad) cap) (j : Nat) (u : Value) (hj : (flatO os)[j]? = some u) : w.cell? (ad.add j) = some u := by
  obtain ⟨i, k, hi, hk, rfl, rfl⟩ := flat_inv (by omega) _ (rowsO_nine os) j u hj
  have hi' : i < os.length := by simpa [rowsO] using hi
  obtain ⟨bl, ol, e, _⟩ := h.hdr.some (by omega)
  obtain rfl : ad = ⟨bl, ol, none⟩ := Option.some.inj e
  have er := rowsO_get os i hi
  have hk' : k < (encO os[i].1).toArray.size := by rw [← er]; exact hk
  have := h.rows i hi' bl ol rfl k hk'
  rw [Addr.add_lit, ← Nat.add_assoc, this]
  exact congrArg some (get_congr er.symm k _ _)
/-- The objects' cells as an array. -/
def arrO (os : List Ob) : Array OC := (os.map (·.1)).toArray
theorem arrO_size (os : List Ob) : (arrO os).size = os.length := by simp [arrO]
theorem arrO_get (os : List Ob) (i : Nat) (hi : i < os.length) : (arrO os)[i]! = os[i].1 := by
  rw [getElem!_pos _ i (by rw [arrO_size]; exact hi)]
  simp [arrO]
theorem flatO_at (os : List Ob) (j : Nat) (hj : j < os.length * 9) : (flatO os)[j]? = some ((flatK encO 9 (arrO os))[j]!) := by
  have hi : j / 9 < (rowsO os).length := by simp [rowsO]; omega
  have hi' : j / 9 < os.length := by omega
  have hk : j % 9 < (rowsO os)[j / 9].size := by rw [rowsO_nine os _ (List.getElem_mem hi)]; exact Nat.mod_lt _ (by omega)
  have := flat_get (rowsO os) (rowsO_nine os) (j / 9) hi (j % 9) hk
  rw [show j / 9 * 9 + j % 9 = j by omega] at this
  unfold flatO
  rw [this, get_flatK encO 9 _ j (by rw [arrO_size]; exact hj), arrO_get os _ hi']
  have er := rowsO_get os (j / 9) hi
  rw [getElem!_pos _ (j % 9) (by rw [encO_len]; exact Nat.mod_lt _ (by omega))]
  have := get_congr er (j % 9) hk (by rw [← er]; exact hk)
  rw [this]
  rfl

/-- A copy of objects, in a row of one's own. -/
def CopiedO (w : World) (os : List Ob) (e : Ending) (w' : World) : Prop := ∃ g cap, e = .returned (.slice (some ⟨g, 0, none⟩) os.length cap) ∧ w.heap.size ≤ g ∧ g < w'.heap.size ∧ os.length ≤ cap ∧ cap ≤ 9223372036854775807 ∧ HoldsK encO 9 w' g 0 (arrO os) ∧ Below w.heap.size w w'

set_option maxHeartbeats 400000 in
theorem sCloneO_some {w : World} {R : Nat → Prop} {os : List Ob} {ad : Addr} {cap : Nat} (h : SliceO w R os (some ad) cap) :
    Calls Tryd.prog 39 #[.slice (some ad) os.length cap] w (CopiedO w os) := by
  have hl := h.hdr.le
  have hx := h.hdr.big
  have H := Lib.hid h
  clear h
  obtain ⟨i0, hi, hz0, hz1, hz2⟩ := info_parts Tryd.infoO
  have hq : ∀ wx : World, (binOp .eql 47 (.slice (some ad) os.length cap) (.slice none 0 0)).run Tryd.prog wx = .ok (.bool false) wx := fun wx => Lib.run_eql_slice_nil wx 47 31 _ _ _ _ _ Tryd.underlying47
  have HF := Lib.hid (flatO_len os)
  have hown := World.ownsRow_lit (base := w.heap.size) (e := 31) (size := 9) w #[] 0 (Nat.le_refl _) (by decide) (by simp)
  go_enter Tryd.func39, Tryd.ntmps39
  go_wp2_with (at_builtin; refine wpList_append_own _ rfl (.tmp 5) (.tmp 6) 47 rfl w.heap.size 31 i0 _ 9 136 Tryd.underlying47 hi hz0 hz1 hz2 rfl (by decide) _ 0 _ rfl hown ad os.length cap (flatO os) rfl HF.out ?c1 ?c2 ?c3 ?c4 ?c5 ?_)
  case c1 =>
    intro j u hu
    have h0 := flatO_cells H.out j u hu
    rw [← h0]
    exact ((Below.refl w.heap.size w).alloc (Nat.le_refl _) _).cell (p := ad.add j) (World.block_lt_of_cell? _ _ h0)
  case c2 => exact flatO_one os
  case c3 => unfold maxLen; omega
  intro v w1 ho hg hnil
  obtain ⟨g, cap2, rfl, hge⟩ : ∃ g cap2, v = .slice (some ⟨g, 0, none⟩) os.length cap2 ∧ w.heap.size ≤ g := by
    rcases ho.2 with ⟨rfl, h0⟩ | ⟨g, cap2, cur, e, hge, _⟩
    · exact (hnil rfl).elim
    · exact ⟨g, cap2, by rw [e], hge⟩
  have hgl := ho.lt g (by simp [Value.ownBlock])
  have hO : w1.ownsRow w.heap.size 31 9 (.slice (some ⟨g, 0, none⟩) os.length cap2) os.length (flatO os) := by simpa using ho
  have hcap : os.length ≤ cap2 ∧ cap2 ≤ 9223372036854775807 := by
    rcases hO.2 with ⟨e, _⟩ | ⟨g', c', cur, e, _, _, hc, hm, _⟩
    · cases e
    · injection e with _ _ e3
      unfold maxLen at hm
      omega
  have hH : HoldsK encO 9 w1 g 0 (arrO os) := fun j hj => by
    rw [size_flatK, arrO_size] at hj
    rw [Nat.zero_add, hO.cellAt j hj, flatO_at os j hj]
    exact ⟨rfl, hO.frozenAt j⟩
  have hB : Below w.heap.size w w1 := ((Below.refl w.heap.size w).alloc (Nat.le_refl _) _).grown hg (by simp) (by simp [Value.ownBlock])
  have HH := Lib.hid hH
  clear hO ho hH
  go_wp2_with fail
  go_ret
  exact ⟨_, _, rfl, hge, hgl.2, hcap.1, hcap.2, HH.out, hB⟩

theorem sCloneO_none (cap : Nat) (w : World) : Calls Tryd.prog 39 #[.slice none 0 cap] w fun e w' => e = .returned (.slice none 0 0) ∧ w' = w := AnyE.slices_Clone_nil Tryd.cloneObj 0 cap w

end Go.Proofs.YtbmlmcoepmbelaaDoor
