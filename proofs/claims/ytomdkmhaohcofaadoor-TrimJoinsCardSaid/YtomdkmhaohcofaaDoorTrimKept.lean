/-
  Package trim's kept: tokens in a slice of one's own.
-/
import Derived.Test.YtomdkmhaohcofaaDoorTrimLeft
import Derived.Test.YtomdkmhaohcofaaDoorOwn
set_option linter.unusedVariables false
set_option linter.unusedSimpArgs false
namespace Go.Proofs.YtomdkmhaohcofaaDoor
open Go.RowKit

def flatT (ts : List Tok) : List Value := ts.flatMap fun t => (tokC t).toList

/-- Tokens in a slice of one's own. -/
def OwnT (base : Nat) (w : World) (v : Value) (ts : List Tok) : Prop := w.ownsRow base 30 3 v ts.length (flatT ts)

theorem Tryd.infoTok : (Tryd.prog.info? 30).map (fun i => (i.zero, i.size, i.bytes)) = some (some (.agg #[.bool false, .string ⟨#[]⟩, .int .i64 0]), 3, 32) := by kernel_rfl
theorem info_tok : ∃ i0, Tryd.prog.info? 30 = some i0 ∧ i0.zero = some (.agg #[.bool false, .string ⟨#[]⟩, .int .i64 0]) ∧ i0.size = 3 ∧ i0.bytes = 32 := by
  have h := Tryd.infoTok
  cases e : Tryd.prog.info? 30 with
  | none => rw [e] at h; cases h
  | some i =>
    rw [e] at h
    simp only [Option.map_some, Option.some.injEq, Prod.mk.injEq] at h
    exact ⟨i, rfl, h.1, h.2.1, h.2.2⟩
theorem tok_lit (w : World) (cs : Array Value) (t : TypeId) (j : Nat) (u : Value) (h : cs.toList[j]? = some u) : (w.alloc (.cells cs t)).cell? ((⟨w.heap.size, 0, none⟩ : Addr).add j) = some u := by
  rw [Addr.add_lit, Nat.zero_add, World.cell?_alloc_new, ← Array.getElem?_toList]
  exact h

/-- What a slice of one's own has become. -/
def GrewT (base : Nat) (w : World) (v : Value) (ts : List Tok) (w' : World) (v' : Value) : Prop :=
  OwnT base w' v' ts ∧ w.grownBy w' v.ownBlock ∧ (v'.ownBlock = v.ownBlock ∨ ∃ g, w.heap.size ≤ g ∧ v'.ownBlock = some g)

def KeptIn (base : Nat) (w : World) (v : Value) (ts : List Tok) (e : Ending) (w' : World) : Prop := ∃ v', e = .returned v' ∧ GrewT base w v ts w' v'

theorem flatT_snoc (ts : List Tok) (t : Tok) : flatT (ts ++ [t]) = flatT ts ++ (tokC t).toList := by simp [flatT]

set_option maxHeartbeats 1000000 in
theorem mkept_any {base : Nat} {v : Value} {ts : List Tok} (w : World) (h : OwnT base w v ts) (t : Tok) (hn : ts.length ≤ 100000) (hb : base ≤ w.heap.size) :
    Calls Tryd.prog 18 #[v, .agg (tokC t)] w (KeptIn base w v (ts ++ oneT t)) := by
  obtain ⟨b, S, n⟩ := t
  obtain ⟨i0, hi, hz0, hz1, hz2⟩ := info_tok
  have HI0 := Lib.hid hi
  have HZ0 := Lib.hid hz0
  have HZ1 := Lib.hid hz1
  have HZ2 := Lib.hid hz2
  clear hi hz0 hz1 hz2
  have H := Lib.hid h
  show Calls _ _ #[v, .agg #[.bool b, .string ⟨S.toArray⟩, .int .i64 n]] w _
  have hgr : Hid (w.grownBy (w.alloc (.cells #[.bool b, .string ⟨S.toArray⟩, .int .i64 n] 30)) v.ownBlock) := (grown_of_below ((Below.refl w.heap.size w).alloc (Nat.le_refl _) _) v.ownBlock)
  have hown : Hid (OwnT base (w.alloc (.cells #[.bool b, .string ⟨S.toArray⟩, .int .i64 n] 30)) v ts) := World.ownsRow.alloc h _
  obtain ⟨a, c, rfl⟩ := row_form h
  by_cases hS : S = []
  · subst hS
    have e : oneT ⟨b, [], n⟩ = [] := rfl
    rw [e, List.append_nil]
    clear h
    go_enter Tryd.func18, Tryd.ntmps18
    go_wp2_with fail
    go_ret
    exact ⟨_, rfl, hown.out, hgr.out, .inl rfl⟩
  · have e : oneT ⟨b, S, n⟩ = [⟨b, S, n⟩] := by rw [oneT, if_neg hS]
    rw [e]
    clear h
    have hne : S.isEmpty = false := by
      cases S with
      | nil => exact absurd rfl hS
      | cons _ _ => rfl
    have hown2 : Hid (OwnT base ((w.alloc (.cells #[.bool b, .string ⟨S.toArray⟩, .int .i64 n] 30)).alloc (.cells #[.bool b, .string ⟨S.toArray⟩, .int .i64 n] 30)) (.slice a ts.length c) ts) := World.ownsRow.alloc hown.out _
    have hgr2 : Hid (w.grownBy ((w.alloc (.cells #[.bool b, .string ⟨S.toArray⟩, .int .i64 n] 30)).alloc (.cells #[.bool b, .string ⟨S.toArray⟩, .int .i64 n] 30)) (Value.slice a ts.length c).ownBlock) := (grown_of_below (((Below.refl w.heap.size w).alloc (Nat.le_refl _) _).alloc (by simp) _) _)
    have N1 : Hid (∀ ad : Addr, some (⟨w.heap.size + 1, 0, none⟩ : Addr) = some ad → ∀ j u, [Value.bool b, .string ⟨S.toArray⟩, .int .i64 n][j]? = some u → ((w.alloc (.cells #[.bool b, .string ⟨S.toArray⟩, .int .i64 n] 30)).alloc (.cells #[.bool b, .string ⟨S.toArray⟩, .int .i64 n] 30)).cell? (ad.add j) = some u) := fun ad h j u hu => by
      injection h with h
      subst h
      have := tok_lit (w.alloc (.cells #[.bool b, .string ⟨S.toArray⟩, .int .i64 n] 30)) #[.bool b, .string ⟨S.toArray⟩, .int .i64 n] 30 j u hu
      simpa using this
    have N2 : Hid (∀ u ∈ [Value.bool b, .string ⟨S.toArray⟩, .int .i64 n], u.oneCell' = true) := fun u hu => by
      simp at hu
      rcases hu with rfl | rfl | rfl <;> rfl
    go_enter Tryd.func18, Tryd.ntmps18
    go_wp2_with (at_builtin; (refine wpList_append_own_any _ rfl (.tmp 9) (.tmp 11) 25 rfl base 30 i0 _ 3 32 Tryd.underlying25 HI0.out HZ0.out HZ1.out HZ2.out (by rfl) (by decide) (.slice a ts.length c) ts.length _ rfl hown2.out (some ⟨w.heap.size + 1, 0, none⟩) 1 1 [.bool b, .string ⟨S.toArray⟩, .int .i64 n] rfl rfl (fun h => by cases h) N1.out N2.out (by unfold maxLen; omega) (by omega) (by simp; omega) ?_))
    intro v' w6 own6 hg6 hob6
    obtain ⟨al6, cl6, rfl⟩ := row_form own6
    have OW6 := Lib.hid own6
    have HG6 := Lib.hid hg6
    have HO6 := Lib.hid hob6
    clear own6 hg6 hob6
    go_wp2_with fail
    go_ret
    refine ⟨_, rfl, ?_, hgr2.out.trans HG6.out, ?_⟩
    · show World.ownsRow _ _ _ _ _ _ _
      rw [flatT_snoc, List.length_append]
      exact OW6.out
    · rcases HO6.out with e | e
      · exact .inl e
      · exact .inr ⟨w.heap.size + 1 + 1, by omega, e⟩

end Go.Proofs.YtomdkmhaohcofaaDoor
