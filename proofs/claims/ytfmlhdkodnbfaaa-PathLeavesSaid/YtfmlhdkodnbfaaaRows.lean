/-
  NARROWER THAN 'FOR EVERY INPUT', by the rows' own cells (each row's printed sentence says how): PathLeaves: loops · PathDrops: loops · PathAll: loops.
  DERIVED. THE GIVEN ROWS OF THIS SEAT. 3 by the template 'for every input the law returns true; each argument reads behind the call as it read before'; 0 by the template 'total and deterministic' (their statements: YtfmlhdkodnbfaaaTotals.lean).
  GIVEN WITH THE SEED: the statements are not yours to turn. If you find one false, say at which input.
  Laid BY PROGRAM, IN A SANDBOX (cutbox-rows.mjs): the forced cells as the released guide's own fill.sh prints them over the translation e90dde64c3608219… (all of the seat's roots in one cut). By AI agents, Wed Nov 11 2026. No macro, syntax, notation, axiom, sorry.
-/
import Derived.Test.YtfmlhdkodnbfaaaChecked
import GoSem.Claim
import GoSem.ClaimJoined
import GoSem.ClaimMapViews
import Derived.JoinedTies
import Derived.KernelRfl
namespace Go.Proofs.Ytfmlhdkodnbfaaa
/- THE CELL 'sum', in the pinned program and in every row, IS THE sha256 OF THE DUMP (.gsa) THAT YtfmlhdkodnbfaaaProg.lean LOADS. Nothing in Lean hashes anything: it is a label: what it is worth is what the hold of that sum in a sandbox is worth. -/
noncomputable def Try.pinned : Pinned := { name := "ytfmlhdkodnbfaaa", sum := "e90dde64c360821999b45be1ba5670fce390fe3f447374b63febcd9b7d197454", checked := Try.checked }
namespace Rows
def none {H : Type} : Left H := { results := [], args := [] }

/-- 'mizzenlaw02.PathLeaves': WHATEVER THE INPUT: true; the input reads as it did. -/
def pathLeavesSpec : ChangeSpec := { name := "pathLeaves", fn := fun _ => fun
  | [d1, d2] => { results := [.lit (.bool true)], args := [d1, d2] }
  | _ => none }
def pathLeavesRow : OpenClaim := { program := "ytfmlhdkodnbfaaa", sum := "e90dde64c360821999b45be1ba5670fce390fe3f447374b63febcd9b7d197454", func := "mizzen/mizzenlaw02.PathLeaves", spec := "pathLeaves", unfollowed := true, recurses := true, loops := true, apart := false }
def PathLeavesSaid : Prop := pathLeavesRow.holds Try.pinned (OpenSpec.ofChange pathLeavesSpec)

/-- ITS FALSE NEIGHBOUR: 'it returns false'. Refute it at one input. -/
def pathLeavesWrong : ChangeSpec := { name := "pathLeaves", fn := fun _ => fun
  | [d1, d2] => { results := [.lit (.bool false)], args := [d1, d2] }
  | _ => none }
def PathLeavesWrongFalsely : Prop := pathLeavesRow.holds Try.pinned (OpenSpec.ofChange pathLeavesWrong)

/-- 'mizzenlaw02.PathDrops': WHATEVER THE INPUT: true; the input reads as it did. -/
def pathDropsSpec : ChangeSpec := { name := "pathDrops", fn := fun _ => fun
  | [d1, d2] => { results := [.lit (.bool true)], args := [d1, d2] }
  | _ => none }
def pathDropsRow : OpenClaim := { program := "ytfmlhdkodnbfaaa", sum := "e90dde64c360821999b45be1ba5670fce390fe3f447374b63febcd9b7d197454", func := "mizzen/mizzenlaw02.PathDrops", spec := "pathDrops", unfollowed := true, recurses := true, loops := true, apart := false }
def PathDropsSaid : Prop := pathDropsRow.holds Try.pinned (OpenSpec.ofChange pathDropsSpec)

/-- ITS FALSE NEIGHBOUR: 'it returns false'. Refute it at one input. -/
def pathDropsWrong : ChangeSpec := { name := "pathDrops", fn := fun _ => fun
  | [d1, d2] => { results := [.lit (.bool false)], args := [d1, d2] }
  | _ => none }
def PathDropsWrongFalsely : Prop := pathDropsRow.holds Try.pinned (OpenSpec.ofChange pathDropsWrong)

/-- 'mizzenlaw02.PathAll': WHATEVER THE INPUT: true; the input reads as it did. -/
def pathAllSpec : ChangeSpec := { name := "pathAll", fn := fun _ => fun
  | [d1, d2] => { results := [.lit (.bool true)], args := [d1, d2] }
  | _ => none }
def pathAllRow : OpenClaim := { program := "ytfmlhdkodnbfaaa", sum := "e90dde64c360821999b45be1ba5670fce390fe3f447374b63febcd9b7d197454", func := "mizzen/mizzenlaw02.PathAll", spec := "pathAll", unfollowed := true, recurses := true, loops := true, apart := false }
def PathAllSaid : Prop := pathAllRow.holds Try.pinned (OpenSpec.ofChange pathAllSpec)

/-- ITS FALSE NEIGHBOUR: 'it returns false'. Refute it at one input. -/
def pathAllWrong : ChangeSpec := { name := "pathAll", fn := fun _ => fun
  | [d1, d2] => { results := [.lit (.bool false)], args := [d1, d2] }
  | _ => none }
def PathAllWrongFalsely : Prop := pathAllRow.holds Try.pinned (OpenSpec.ofChange pathAllWrong)

/- THE SECOND FORM. 'bulk': how many values and letters a reading holds, each counted each time it is reached (what is shared counts as often as it is met; a slice's spare places count too). A statement '..UptoSaid' is the law's where the arguments, and the package variables that the reading takes, are together of bulk at most 1048576: NARROWER than '..Said'. Prove '..Said' where nothing that the law and all that it calls make is longer than what came in: it says more and counts as full. Else prove '..UptoSaid'. A law counts once. -/
mutual
def uptoBulk {H : Type} : DataW H → Nat
  | .lit (.string bytes) => bytes.length + 1
  | .lit _ => 1
  | .nil => 1
  | .ptr d => uptoBulk d + 1
  | .slice elems spare => uptoBulkAll elems + uptoBulkAll spare + 1
  | .agg parts => uptoBulkAll parts + 1
  | .iface _ d => uptoBulk d + 1
  | .map entries => uptoBulkEntries entries + 1
  | .held _ => 1
def uptoBulkAll {H : Type} : List (DataW H) → Nat
  | [] => 0
  | d :: r => uptoBulk d + uptoBulkAll r
def uptoBulkEntries {H : Type} : List (Lit × DataW H) → Nat
  | [] => 0
  | x :: r => uptoBulkEntry x + uptoBulkEntries r
def uptoBulkEntry {H : Type} : Lit × DataW H → Nat
  | (.string bytes, d) => bytes.length + uptoBulk d + 1
  | (_, d) => uptoBulk d + 1
 end
def uptoSmall : (H : Type) → List (DataW H) → Bool := fun _ ds => decide (uptoBulkAll ds ≤ 1048576)
def OpenSpec.upto (s : _root_.Go.ChangeSpec) : _root_.Go.OpenSpec := { _root_.Go.OpenSpec.ofChange s with cond := some uptoSmall }

/-- 'mizzenlaw02.PathLeaves', WHERE WHAT IT READS IS OF BULK AT MOST 1048576: true; the input reads as it did. -/
def pathLeavesUptoRow : OpenClaim := { program := "ytfmlhdkodnbfaaa", sum := "e90dde64c360821999b45be1ba5670fce390fe3f447374b63febcd9b7d197454", func := "mizzen/mizzenlaw02.PathLeaves", spec := "pathLeaves", unfollowed := true, recurses := true, loops := true, apart := false, narrowed := true }
def PathLeavesUptoSaid : Prop := pathLeavesUptoRow.holds Try.pinned (OpenSpec.upto pathLeavesSpec)

/-- 'mizzenlaw02.PathDrops', WHERE WHAT IT READS IS OF BULK AT MOST 1048576: true; the input reads as it did. -/
def pathDropsUptoRow : OpenClaim := { program := "ytfmlhdkodnbfaaa", sum := "e90dde64c360821999b45be1ba5670fce390fe3f447374b63febcd9b7d197454", func := "mizzen/mizzenlaw02.PathDrops", spec := "pathDrops", unfollowed := true, recurses := true, loops := true, apart := false, narrowed := true }
def PathDropsUptoSaid : Prop := pathDropsUptoRow.holds Try.pinned (OpenSpec.upto pathDropsSpec)

/-- 'mizzenlaw02.PathAll', WHERE WHAT IT READS IS OF BULK AT MOST 1048576: true; the input reads as it did. -/
def pathAllUptoRow : OpenClaim := { program := "ytfmlhdkodnbfaaa", sum := "e90dde64c360821999b45be1ba5670fce390fe3f447374b63febcd9b7d197454", func := "mizzen/mizzenlaw02.PathAll", spec := "pathAll", unfollowed := true, recurses := true, loops := true, apart := false, narrowed := true }
def PathAllUptoSaid : Prop := pathAllUptoRow.holds Try.pinned (OpenSpec.upto pathAllSpec)

end Rows
end Go.Proofs.Ytfmlhdkodnbfaaa
