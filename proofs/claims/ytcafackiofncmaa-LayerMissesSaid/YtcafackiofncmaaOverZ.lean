/-
  How large what is laid over each other is.
-/
import Derived.Test.YtcafackiofncmaaOverP
import Derived.Test.YtcafackiofncmaaLaid
set_option linter.unusedVariables false
namespace Go.Proofs.Ytcafackiofncmaa
open Go.RowKit Go.Sort

def szR (ps : Prs) : Nat := (ps.map fun p => p.2.size).sum
theorem szR_nil : szR [] = 0 := rfl
theorem szR_cons (p : ByteArray × T) (r : Prs) : szR (p :: r) = p.2.size + szR r := by simp [szR]
theorem szR_append (a b : Prs) : szR (a ++ b) = szR a + szR b := by simp [szR]
theorem nil_size : T.nil.size = 1 := by unfold T.nil; rw [T.size_mk]; simp

theorem cut_sz (key : ByteArray) : ∀ ps : Prs, szR (cutB key ps) + (cutH key ps).size + szR (cutA key ps) ≤ szR ps + 1
  | [] => by rw [cutB, cutH, cutA, nil_size, szR_nil]; omega
  | p :: r => by
    have := cut_sz key r
    rw [cutB, cutH, cutA]
    by_cases h : ltS p.1 key = true
    · rw [if_pos h, if_pos h, if_pos h, szR_cons, szR_cons]; omega
    · rw [if_neg h, if_neg h, if_neg h, szR_nil]
      by_cases e : p.1 = key
      · rw [if_pos e, if_pos e, szR_cons]; omega
      · rw [if_neg e, if_neg e, nil_size]; omega

theorem overR_sz {m : Prs} (ih : ∀ p ∈ m, ∀ t : T, (T.over t p.2).size + 1 ≤ t.size + p.2.size) : ∀ rest : Prs, szR (overR rest m) ≤ szR rest + szR m := by
  induction m with
  | nil => intro rest; rw [overR_nil]; omega
  | cons p r ihr =>
    intro rest
    have h1 := ihr (fun q hq => ih q (by simp [hq])) (cutA p.1 rest)
    have h2 := cut_sz p.1 rest
    have h3 := ih p (by simp) (cutH p.1 rest)
    have h4 := size_posL (cutH p.1 rest)
    rw [overR_cons, szR_append, szR_append, szR_cons]
    by_cases h0 : p.2.kind = 0
    · rw [if_pos h0, szR_nil]; omega
    · rw [if_neg h0, szR_cons, szR_nil]
      dsimp only
      omega

theorem pairs_sz (t : T) : 1 + szR t.pairs ≤ t.size := by
  cases t with
  | mk k b n s l m =>
    rw [T.size_mk]
    by_cases h : k = 5
    · rw [show (T.mk k b n s l m).pairs = m from if_pos h]
      unfold szR
      omega
    · rw [show (T.mk k b n s l m).pairs = [] from if_neg h, szR_nil]
      omega

theorem over_sz (u : T) : ∀ t : T, (T.over t u).size + 1 ≤ t.size + u.size := by
  induction u using T.ind with
  | h k b n s l m hl hm =>
    intro t
    have hp := pairs_sz t
    by_cases h : k = 5
    · subst h
      have := overR_sz hm t.pairs
      rw [over_map, T.size_mk, T.size_mk]
      unfold szR at *
      simp only [List.map_nil, List.sum_nil]
      omega
    · rw [over_other _ b n s l m h]
      omega

end Go.Proofs.Ytcafackiofncmaa
