/-
  Package trim's laws: awake, and what they share.
-/
import Derived.Test.YtomdkmhaohcofaaDoorTrimSplit
set_option linter.unusedVariables false
set_option linter.unusedSimpArgs false
namespace Go.Proofs.YtomdkmhaohcofaaDoor
open Go.RowKit

/-- What Split leaves where its tokens are known. -/
def SplitTo (w : World) (ts : List Tok) (e : Ending) (w' : World) : Prop :=
  ∃ v, e = .returned (.tuple #[v, .int .i64 0]) ∧ Below w.heap.size w w' ∧ OwnT w.heap.size w' v ts
def SplitNo (w : World) (e : Ending) (w' : World) : Prop := e = .returned (.tuple #[.slice none 0 0, .int .i64 21]) ∧ Below w.heap.size w w'

theorem msplit_to (s : ByteArray) (ts : List Tok) (h : splitT s.data.toList 0 false = some ts) (hs : s.size ≤ 65536) (m : Int) (w : World) (hm : w.cell? ⟨0, 0, none⟩ = some (.int .i64 m)) (h0 : 0 < w.heap.size) :
    Calls Tryd.prog 11 #[.string s] w (SplitTo w ts) := (msplit_any s hs m w hm h0).mono fun e w' ⟨hb, hx⟩ => by
  rcases hx with ⟨hn, _⟩ | ⟨ts', v, h1, h2, h3⟩
  · rw [h] at hn; cases hn
  · rw [h] at h1
    cases h1
    exact ⟨v, h2, hb, h3⟩
theorem msplit_no (s : ByteArray) (h : splitT s.data.toList 0 false = none) (hs : s.size ≤ 65536) (m : Int) (w : World) (hm : w.cell? ⟨0, 0, none⟩ = some (.int .i64 m)) (h0 : 0 < w.heap.size) :
    Calls Tryd.prog 11 #[.string s] w (SplitNo w) := (msplit_any s hs m w hm h0).mono fun e w' ⟨hb, hx⟩ => by
  rcases hx with ⟨_, he⟩ | ⟨ts', v, h1, h2, h3⟩
  · exact ⟨he, hb⟩
  · rw [h] at h1; cases h1

/-- Tokens' cells. -/
theorem own_cells {base : Nat} {w : World} {v : Value} {t : Tok} {ts : List Tok} (h : OwnT base w v (t :: ts)) : ∃ g c, v = .slice (some ⟨g, 0, none⟩) (ts.length + 1) c ∧ base ≤ g ∧ g < w.heap.size ∧ ∀ j u, (flatT (t :: ts))[j]? = some u → w.cell? ⟨g, j, none⟩ = some u := by
  obtain ⟨al, c, rfl⟩ := row_form h
  rcases h.2 with ⟨e, hn⟩ | ⟨g, cap, cur, e, hg, hx⟩
  · cases hn
  · have hlt := World.ownsRow.lt h g (by rw [e]; rfl)
    injection e with e1 e2 e3
    subst e1 e3
    refine ⟨g, _, rfl, hlt.1, hlt.2, fun j u hu => ?_⟩
    have := World.ownsRow.cells h (g := g) rfl j u hu
    rw [Addr.add_lit, Nat.zero_add] at this
    exact this

theorem awake_split : splitT [97, 32, 123, 123, 45, 32, 120, 32, 45, 125, 125, 32, 98] 0 false = some [⟨false, [97], 0⟩, ⟨true, [120], 2⟩, ⟨false, [98], 12⟩] := by
  rw [split_more (text := [97, 32]) (rest := [45, 32, 120, 32, 45, 125, 125, 32, 98]) (n := 5) (by decide) (by decide)]
  rw [split_last (text := [32, 98]) (rest := []) (by decide)]
  rfl

set_option maxRecDepth 100000 in
set_option maxHeartbeats 1000000 in
theorem law6awake_any (m : Int) (w : World) (hm : w.cell? ⟨0, 0, none⟩ = some (.int .i64 m)) (h0 : 0 < w.heap.size) :
    Calls Tryd.prog 10 #[] w fun e w' => e = .returned (.bool true) ∧ Below w.heap.size w w' := by
  have HM := Lib.hid hm
  clear hm
  go_enter Tryd.func10, Tryd.ntmps10
  go_wp2_with (go_at_call 11; refine (msplit_to _ _ awake_split (by decide) m _ HM.out h0).mono ?_; rintro e w1 ⟨v, he, hb, ho⟩
               obtain ⟨g, c, hv, hg1, hg2, hc⟩ := own_cells ho
               subst hv he
               have HB := Lib.hid hb
               have k1 := hc 1 _ rfl
               have k3 := hc 3 _ rfl
               have k4 := hc 4 _ rfl
               have k5 := hc 5 _ rfl
               have k7 := hc 7 _ rfl
               clear hc ho hb)
  go_ret
  exact ⟨rfl, HB.out⟩

theorem OwnT.later {base : Nat} {w w' : World} {v : Value} {ts : List Tok} (h : OwnT base w v ts) (hb : Below w.heap.size w w') : OwnT base w' v ts :=
  World.ownsRow.kept h (grown_of_below hb none) (by
    cases hv : v.ownBlock with
    | none => exact .inl rfl
    | some k => exact .inr (by simp))

theorem own_later {base : Nat} {w : World} {v : Value} {t : Tok} {ts : List Tok} (h : OwnT base w v (t :: ts)) : ∃ g c, v = .slice (some ⟨g, 0, none⟩) (ts.length + 1) c ∧ base ≤ g ∧ ∀ w', Below w.heap.size w w' → ∀ j u, (flatT (t :: ts))[j]? = some u → w'.cell? ⟨g, j, none⟩ = some u := by
  obtain ⟨g, c, e, hg, hlt, hc⟩ := own_cells h
  exact ⟨g, c, e, hg, fun w' hb j u hu => (hb.cell (p := ⟨g, j, none⟩) hlt).trans (hc j u hu)⟩

theorem mPlain_any (s : ByteArray) (hs : s.size ≤ 65536) (m : Int) (w : World) (hm : w.cell? ⟨0, 0, none⟩ = some (.int .i64 m)) :
    Calls Tryd.prog 8 #[.string s] w fun e w' => e = .returned (.bool (!Lib.contains s.data.toList [123, 123])) ∧ w' = w := by
  have HM := Lib.hid hm
  clear hm
  go_enter Tryd.func8, Tryd.ntmps8
  go_wp2_with (go_at_call 15; refine (Tryd.strings_Contains _ _ m _ (by omega) HM.out).mono ?_; rintro e w1 ⟨rfl, rfl⟩)
  go_ret
  exact ⟨ret_bool rfl, rfl⟩

theorem plain_one {l : List UInt8} (h : No2 l 123 123) (n : Nat) : splitT l n false = some (oneT ⟨false, l, n⟩) := by
  rw [split_last (cut_none h), left_ff]

end Go.Proofs.YtomdkmhaohcofaaDoor
