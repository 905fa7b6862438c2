/-
  What values laid over each other are, as trees.
-/
import Derived.Test.YtcafackiofncmaaLawEmpty
set_option linter.unusedVariables false
namespace Go.Proofs.Ytcafackiofncmaa
open Go.RowKit Go.Sort

def stripped (t : T) : Prop := T.over T.nil t = t
theorem stripped_over {t : T} (u : T) (h : stripped t) : stripped (T.over t u) := over_plain u t (Pl.of_plain h)
theorem none5_stripped : stripped T.none5 := by
  unfold stripped T.none5
  rw [over_nil_map, overR_nil]
theorem foldl_stripped : ∀ (ts : List T) (t : T), stripped t → stripped (ts.foldl T.over t)
  | [], _, h => h
  | x :: r, t, h => foldl_stripped r _ (stripped_over x h)
theorem all_stripped (ts : List T) : stripped (ts.foldl T.over T.none5) := foldl_stripped ts _ none5_stripped
theorem all_plain (ts : List T) : plainT (ts.foldl T.over T.none5) = true := plainT_of (all_stripped ts)
theorem all_again (ts : List T) : [ts.foldl T.over T.none5].foldl T.over T.none5 = ts.foldl T.over T.none5 :=
  (over_pairs (t := T.none5) (t' := T.nil) _ rfl).trans (all_stripped ts)
theorem all_joined (t u v : T) : T.over ([t, u].foldl T.over T.none5) v = [t, u, v].foldl T.over T.none5 := rfl
theorem foldl_sz : ∀ (ts : List T) (t : T), (ts.foldl T.over t).size ≤ t.size + (ts.map T.size).sum
  | [], t => by simp
  | x :: r, t => by
    have h1 := foldl_sz r (T.over t x)
    have h2 := over_sz x t
    simp only [List.foldl_cons, List.map_cons, List.sum_cons]
    omega
theorem none5_size : T.none5.size = 1 := by unfold T.none5; rw [T.size_mk]; simp
theorem layT_sz (ts : List T) (j : Nat) : (layT ts j).size ≤ 1 + (ts.map T.size).sum := by
  unfold layT
  have h1 := foldl_sz (ts.take j) T.none5
  have h2 : ((ts.take j).map T.size).sum ≤ (ts.map T.size).sum := by
    conv => rhs; rw [← List.take_append_drop j ts]
    rw [List.map_append, List.sum_append]
    omega
  rw [none5_size] at h1
  omega

end Go.Proofs.Ytcafackiofncmaa
