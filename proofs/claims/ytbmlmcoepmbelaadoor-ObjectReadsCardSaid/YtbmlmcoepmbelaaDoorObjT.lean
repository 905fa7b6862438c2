/-
  Package object's Parse.
-/
import Derived.Test.YtbmlmcoepmbelaaDoorObjQ
import Derived.Test.YtbmlmcoepmbelaaDoorObjD
import Derived.Test.YtbmlmcoepmbelaaDoorObjO
import Derived.Test.YtbmlmcoepmbelaaDoorShelf
set_option linter.unusedVariables false
set_option linter.unusedSimpArgs false
namespace Go.Proofs.YtbmlmcoepmbelaaDoor
open Go.RowKit

theorem splitN_any (s : ByteArray) (hs : s.size ≤ 100000) (m : Int) (w : World) (hm : w.cell? ⟨1, 0, none⟩ = some (.int .i64 m)) :
    Calls Tryd.prog 29 #[.string s, .string ⟨#[47]⟩, .int .i64 3] w fun e w' =>
      e = .returned (.slice (some ⟨w.heap.size, 0, none⟩) (splitO s).length (min 3 (s.size + 1))) ∧ w' = w.alloc (.cells (Lib.cellsOf (splitO s) (min 3 (s.size + 1))) 9) :=
  Tryd.strings_SplitN s ⟨#[47]⟩ 3 m w (by omega) hm (by decide) (by decide) (by decide)
theorem split_cell {w : World} {g : Nat} {L : List ByteArray} {N : Nat} (i : Nat) (hi : i < L.length) (w2 : World) (h2 : w2 = w.alloc (.cells (Lib.cellsOf L N) 9)) (hg : g = w.heap.size) : w2.cell? ⟨g, i, none⟩ = some (.string L[i]) := by
  subst h2
  subst hg
  rw [World.cell?_alloc_new]
  unfold Lib.cellsOf
  rw [List.getElem?_toArray, List.getElem?_append_left (by simpa using hi), List.getElem?_map, List.getElem?_eq_getElem hi]
  rfl

theorem splitB_size (sep : ByteArray) : ∀ (k : Nat) (s x : ByteArray), x ∈ Lib.splitB sep 0 k s → x.size ≤ s.size
  | 0, s, x, h => by
    rw [Lib.splitB_zero] at h
    rw [List.mem_singleton.1 h]
    exact Nat.le_refl _
  | k + 1, s, x, h => by
    unfold Lib.splitB at h
    split at h
    · rw [List.mem_singleton.1 h]
      exact Nat.le_refl _
    · rcases List.mem_cons.1 h with rfl | h
      · rw [ByteArray.size_extract]; omega
      · have := splitB_size sep k _ x h
        rw [ByteArray.size_extract] at this
        omega
theorem split_size {s : ByteArray} {L : List ByteArray} (h : splitO s = L) {x : ByteArray} (hx : x ∈ L) : x.size ≤ s.size := splitB_size _ _ _ _ (by rw [← h] at hx; exact hx)

def ParseO (w : World) (r : ByteArray × ByteArray × ByteArray × Int) (e : Ending) (w' : World) : Prop := e = .returned (.tuple #[.agg #[.string r.1, .string r.2.1, .string r.2.2.1], .int .i64 r.2.2.2]) ∧ Below w.heap.size w w'

set_option maxRecDepth 100000 in
set_option maxHeartbeats 4000000 in
theorem oParse_any (s : ByteArray) (hs : s.size ≤ 100000) (m : Int) (w : World) (hm : w.cell? ⟨1, 0, none⟩ = some (.int .i64 m)) :
    Calls Tryd.prog 11 #[.string s] w (ParseO w (parseL (splitO s))) := by
  obtain ⟨dd, hu, hdd⟩ := Tryd.structID
  have DD := Lib.hid hdd
  have HU := Lib.hid hu
  clear hdd hu
  have hb1 := (Below.refl w.heap.size w).alloc (Nat.le_refl _) (.cells #[.string ⟨#[]⟩, .string ⟨#[]⟩, .string ⟨#[]⟩] 29)
  have i0 : IdZ (w.alloc (.cells #[.string ⟨#[]⟩, .string ⟨#[]⟩, .string ⟨#[]⟩] 29)) w.heap.size := ⟨by rw [World.cell?_alloc_new]; rfl, by rw [World.cell?_alloc_new]; rfl, by rw [World.cell?_alloc_new]; rfl, Thaw.new _ _ _⟩
  have hsz1 : (w.alloc (.cells #[.string ⟨#[]⟩, .string ⟨#[]⟩, .string ⟨#[]⟩] 29)).heap.size = w.heap.size + 1 := by simp
  have hm1 := cells_frame hb1 hm
  have HB1 := Lib.hid hb1
  have I0 := Lib.hid i0
  have HS1 := Lib.hid hsz1
  go_enter Tryd.func11, Tryd.ntmps11
  go_upto_region 1 with fail
  clear hb1 i0 hm
  generalize w.alloc (.cells #[.string ⟨#[]⟩, .string ⟨#[]⟩, .string ⟨#[]⟩] 29) = v at *
  have SP := Lib.hid (splitN_any s hs m v hm1)
  have SC := Lib.hid (fun (i : Nat) (hi : i < (splitO s).length) (w2 : World) h2 => split_cell (w := v) (g := v.heap.size) (N := min 3 (s.size + 1)) i hi w2 h2 rfl)
  have hl3 := splitO_len s
  have hlN := splitO_len2 s
  have hN : min 3 (s.size + 1) ≤ 3 := by omega
  clear hm1 hsz1
  obtain ⟨L, hL⟩ : ∃ L, L = splitO s := ⟨_, rfl⟩
  have HSP : Hid (splitO s = L) := hL.symm
  rw [← hL] at SP SC hl3 hlN ⊢
  clear hL
  generalize min 3 (s.size + 1) = N at *
  go_upto_region 2 with (go_at_call 29; refine SP.out.mono ?_; rintro e w2 ⟨rfl, hw⟩; have HW2 := Lib.hid hw; clear hw)
  have hw2 := HW2.out
  have hb2 : Below v.heap.size v w2 := by rw [hw2]; exact (Below.refl _ _).alloc (Nat.le_refl _) _
  have hs2 : w2.heap.size = v.heap.size + 1 := by rw [hw2]; simp
  have SC2 : Hid (∀ (i : Nat) (hi : i < L.length), w2.cell? ⟨v.heap.size, i, none⟩ = some (.string L[i])) := fun i hi => SC.out i hi w2 hw2
  have HB2 := Lib.hid (bstep HB1.out hb2 HB1.out.size)
  have hv1 := Nat.le_of_eq HS1.out.symm
  have I2 := Lib.hid (I0.out.later hb2 (by omega))
  have HS2 := Lib.hid hs2
  clear hw2 HW2 SP SC hs2 hb2
  by_cases h3 : L.length < 3
  · have hPL : Hid (parseL L = (⟨#[]⟩, ⟨#[]⟩, ⟨#[]⟩, 26)) := by
      show _ = _
      match L, h3 with
      | [], _ => rfl
      | [a], _ => rfl
      | [a, b], _ => rfl
    have hl : decide ((L.length : Int) < 3) = true := decide_eq_true (by omega)
    obtain ⟨c0, c1, c2, ct⟩ := I2.out
    have f0 := ct 0
    have f1 := ct 1
    have f2 := ct 2
    have hN0 : L.length ≤ N := hlN
    clear ct
    go_wp2_with fail
    refine ret_cells_tmp w2 w.heap.size [.string ⟨#[]⟩, .string ⟨#[]⟩, .string ⟨#[]⟩] rfl Tryd.results11 rfl rfl DD.out HU.out Tryd.sizeID I2.out.cells ?_
    rw [HSP.out, hPL.out]
    exact ⟨rfl, setRow_below _ (Nat.le_refl _) [.string ⟨#[]⟩, .string ⟨#[]⟩, .string ⟨#[]⟩] w2 0 HB2.out⟩
  · obtain ⟨k, p, n, rfl⟩ : ∃ k p n, L = [k, p, n] := by
      match L, h3, hl3 with
      | [k, p, n], _, _ => exact ⟨k, p, n, rfl⟩
      | [], h, _ => simp at h
      | [a], h, _ => simp at h
      | [a, b], h, _ => simp at h
      | a :: b :: c :: d :: r, _, h => simp at h
    obtain rfl : N = 3 := by simp at hlN; omega
    have x0 : w2.cell? ⟨v.heap.size, 0, none⟩ = some (.string k) := SC2.out 0 (by simp)
    have x1 : w2.cell? ⟨v.heap.size, 1, none⟩ = some (.string p) := SC2.out 1 (by simp)
    have x2 : w2.cell? ⟨v.heap.size, 2, none⟩ = some (.string n) := SC2.out 2 (by simp)
    clear SC2 hl3 hlN h3 hN
    go_upto_region 4 with fail
    have hba := (Below.refl w2.heap.size w2).alloc (Nat.le_refl _) (.cells #[.string ⟨#[]⟩, .string ⟨#[]⟩, .string ⟨#[]⟩] 29)
    have y0 := cells_frame hba x0
    have y1 := cells_frame hba x1
    have y2 := cells_frame hba x2
    go_region
    have hb3 : Below w2.heap.size w2 ((w2.alloc (.cells #[.string k, .string p, .string n] 29)).drew) := ((Below.refl w2.heap.size w2).alloc (Nat.le_refl _) (.cells #[.string k, .string p, .string n] 29)).drew
    have hz3 : w2.heap.size < ((w2.alloc (.cells #[.string k, .string p, .string n] 29)).drew).heap.size := by simp
    obtain ⟨z0, z1, z2⟩ : ((w2.alloc (.cells #[.string k, .string p, .string n] 29)).drew).cell? ⟨w2.heap.size, 0, none⟩ = some (.string k) ∧ ((w2.alloc (.cells #[.string k, .string p, .string n] 29)).drew).cell? ⟨w2.heap.size, 1, none⟩ = some (.string p) ∧ ((w2.alloc (.cells #[.string k, .string p, .string n] 29)).drew).cell? ⟨w2.heap.size, 2, none⟩ = some (.string n) := Box3.new w2 #[.string k, .string p, .string n] 29 _ _ _ rfl
    clear y0 y1 y2 hba x0 x1 x2
    generalize (w2.alloc (.cells #[.string k, .string p, .string n] 29)).drew = v3 at *
    have hs2 := Nat.le_of_eq HS2.out.symm
    have I3 := Lib.hid (I2.out.later hb3 (by omega))
    have HB3 := Lib.hid (bstep HB2.out hb3 HB2.out.size)
    clear hb3
    have sk : k.size ≤ 140737488355328 := by have := split_size HSP.out (x := k) (by simp); omega
    have sp : p.size ≤ 140737488355328 := by have := split_size HSP.out (x := p) (by simp); omega
    have sn : n.size ≤ 140737488355328 := by have := split_size HSP.out (x := n) (by simp); omega
    have RI := Lib.hid (oRight_any k p n sk sp sn v3)
    have PL : Hid (parseL [k, p, n] = if rightO k p n = true then (k, p, n, 0) else (⟨#[]⟩, ⟨#[]⟩, ⟨#[]⟩, 26)) := rfl
    clear sk sp sn
    generalize rightO k p n = rr at *
    cases rr with
    | false =>
      have PR : Hid (parseL [k, p, n] = (⟨#[]⟩, ⟨#[]⟩, ⟨#[]⟩, 26)) := PL.out
      go_upto_region 6 with (go_at_call 16; refine RI.out.mono ?_; rintro e w4 ⟨rfl, hb4⟩; have HB4 := Lib.hid hb4; clear hb4)
      have hz4 := HB4.out.size
      have I4 := Lib.hid (I3.out.later HB4.out (by omega))
      obtain ⟨c0, c1, c2, ct⟩ := I4.out
      have f0 := ct 0
      have f1 := ct 1
      have f2 := ct 2
      clear ct z0 z1 z2
      go_wp2_with fail
      refine ret_cells_tmp w4 w.heap.size [.string ⟨#[]⟩, .string ⟨#[]⟩, .string ⟨#[]⟩] rfl Tryd.results11 rfl rfl DD.out HU.out Tryd.sizeID I4.out.cells ?_
      rw [HSP.out, PR.out]
      exact ⟨rfl, setRow_below _ (Nat.le_refl _) [.string ⟨#[]⟩, .string ⟨#[]⟩, .string ⟨#[]⟩] w4 0 (bstep HB3.out HB4.out HB3.out.size)⟩
    | true =>
      have PR : Hid (parseL [k, p, n] = (k, p, n, 0)) := PL.out
      go_upto_region 7 with (go_at_call 16; refine RI.out.mono ?_; rintro e w4 ⟨rfl, hb4⟩; have HB4 := Lib.hid hb4; clear hb4)
      have hz4 := HB4.out.size
      have I4 := Lib.hid (I3.out.later HB4.out (by omega))
      obtain ⟨c0, c1, c2, ct⟩ := I4.out
      have f0 := ct 0
      have f1 := ct 1
      have f2 := ct 2
      have j0 := cells_frame HB4.out z0
      have j1 := cells_frame HB4.out z1
      have j2 := cells_frame HB4.out z2
      clear ct z0 z1 z2
      go_wp2_with fail
      refine ret_cells_tmp w4 w.heap.size [.string k, .string p, .string n] rfl Tryd.results11 rfl rfl DD.out HU.out Tryd.sizeID I4.out.cells ?_
      rw [HSP.out, PR.out]
      exact ⟨rfl, setRow_below _ (Nat.le_refl _) [.string k, .string p, .string n] w4 0 (bstep HB3.out HB4.out HB3.out.size)⟩

end Go.Proofs.YtbmlmcoepmbelaaDoor
