/-
  NARROWER THAN 'FOR EVERY INPUT', by the rows' own cells (each row's printed sentence says how): LayerOvers: loops · LayerDiffs: loops · LayerLast: loops · LayerJoins: loops · LayerMisses: loops · LayerEmpty: loops.
  DERIVED. THE GIVEN ROWS OF THIS SEAT. 6 by the template 'for every input the law returns true; each argument reads behind the call as it read before'; 0 by the template 'total and deterministic' (their statements: YtcafackiofncmaaTotals.lean).
  GIVEN WITH THE SEED: the statements are not yours to turn. If you find one false, say at which input.
  Laid BY PROGRAM, IN A SANDBOX (cutbox-rows.mjs): the forced cells as the released guide's own fill.sh prints them over the translation 473749a680e2ed6e… (all of the seat's roots in one cut). By AI agents, Wed Nov 11 2026. No macro, syntax, notation, axiom, sorry.
-/
import Derived.Test.YtcafackiofncmaaChecked
import GoSem.Claim
import GoSem.ClaimJoined
import GoSem.ClaimMapViews
import Derived.JoinedTies
import Derived.KernelRfl
namespace Go.Proofs.Ytcafackiofncmaa
/- THE CELL 'sum', in the pinned program and in every row, IS THE sha256 OF THE DUMP (.gsa) THAT YtcafackiofncmaaProg.lean LOADS. Nothing in Lean hashes anything: it is a label: what it is worth is what the hold of that sum in a sandbox is worth. -/
noncomputable def Try.pinned : Pinned := { name := "ytcafackiofncmaa", sum := "473749a680e2ed6e8076ba647cd64745e1da80882a7b04f5db618486feff4fbd", checked := Try.checked }
namespace Rows
def none {H : Type} : Left H := { results := [], args := [] }

/-- 'mizzenlaw03.LayerOvers': WHATEVER THE INPUT: true; the input reads as it did. -/
def layerOversSpec : ChangeSpec := { name := "layerOvers", fn := fun _ => fun
  | [d1, d2, d3] => { results := [.lit (.bool true)], args := [d1, d2, d3] }
  | _ => none }
def layerOversRow : OpenClaim := { program := "ytcafackiofncmaa", sum := "473749a680e2ed6e8076ba647cd64745e1da80882a7b04f5db618486feff4fbd", func := "mizzen/mizzenlaw03.LayerOvers", spec := "layerOvers", inPlace := ["internal/bytealg.abigen_runtime_cmpstring"], unfollowed := true, recurses := true, loops := true, apart := false }
def LayerOversSaid : Prop := layerOversRow.holds Try.pinned (OpenSpec.ofChange layerOversSpec)

/-- ITS FALSE NEIGHBOUR: 'it returns false'. Refute it at one input. -/
def layerOversWrong : ChangeSpec := { name := "layerOvers", fn := fun _ => fun
  | [d1, d2, d3] => { results := [.lit (.bool false)], args := [d1, d2, d3] }
  | _ => none }
def LayerOversWrongFalsely : Prop := layerOversRow.holds Try.pinned (OpenSpec.ofChange layerOversWrong)

/-- 'mizzenlaw03.LayerDiffs': WHATEVER THE INPUT: true; the input reads as it did. -/
def layerDiffsSpec : ChangeSpec := { name := "layerDiffs", fn := fun _ => fun
  | [d1, d2] => { results := [.lit (.bool true)], args := [d1, d2] }
  | _ => none }
def layerDiffsRow : OpenClaim := { program := "ytcafackiofncmaa", sum := "473749a680e2ed6e8076ba647cd64745e1da80882a7b04f5db618486feff4fbd", func := "mizzen/mizzenlaw03.LayerDiffs", spec := "layerDiffs", inPlace := ["internal/bytealg.abigen_runtime_cmpstring"], unfollowed := true, recurses := true, loops := true, apart := false }
def LayerDiffsSaid : Prop := layerDiffsRow.holds Try.pinned (OpenSpec.ofChange layerDiffsSpec)

/-- ITS FALSE NEIGHBOUR: 'it returns false'. Refute it at one input. -/
def layerDiffsWrong : ChangeSpec := { name := "layerDiffs", fn := fun _ => fun
  | [d1, d2] => { results := [.lit (.bool false)], args := [d1, d2] }
  | _ => none }
def LayerDiffsWrongFalsely : Prop := layerDiffsRow.holds Try.pinned (OpenSpec.ofChange layerDiffsWrong)

/-- 'mizzenlaw03.LayerLast': WHATEVER THE INPUT: true; the input reads as it did. -/
def layerLastSpec : ChangeSpec := { name := "layerLast", fn := fun _ => fun
  | [d1, d2, d3] => { results := [.lit (.bool true)], args := [d1, d2, d3] }
  | _ => none }
def layerLastRow : OpenClaim := { program := "ytcafackiofncmaa", sum := "473749a680e2ed6e8076ba647cd64745e1da80882a7b04f5db618486feff4fbd", func := "mizzen/mizzenlaw03.LayerLast", spec := "layerLast", inPlace := ["internal/bytealg.abigen_runtime_cmpstring"], unfollowed := true, recurses := true, loops := true, apart := false }
def LayerLastSaid : Prop := layerLastRow.holds Try.pinned (OpenSpec.ofChange layerLastSpec)

/-- ITS FALSE NEIGHBOUR: 'it returns false'. Refute it at one input. -/
def layerLastWrong : ChangeSpec := { name := "layerLast", fn := fun _ => fun
  | [d1, d2, d3] => { results := [.lit (.bool false)], args := [d1, d2, d3] }
  | _ => none }
def LayerLastWrongFalsely : Prop := layerLastRow.holds Try.pinned (OpenSpec.ofChange layerLastWrong)

/-- 'mizzenlaw03.LayerJoins': WHATEVER THE INPUT: true; the input reads as it did. -/
def layerJoinsSpec : ChangeSpec := { name := "layerJoins", fn := fun _ => fun
  | [d1, d2, d3] => { results := [.lit (.bool true)], args := [d1, d2, d3] }
  | _ => none }
def layerJoinsRow : OpenClaim := { program := "ytcafackiofncmaa", sum := "473749a680e2ed6e8076ba647cd64745e1da80882a7b04f5db618486feff4fbd", func := "mizzen/mizzenlaw03.LayerJoins", spec := "layerJoins", inPlace := ["internal/bytealg.abigen_runtime_cmpstring"], unfollowed := true, recurses := true, loops := true, apart := false }
def LayerJoinsSaid : Prop := layerJoinsRow.holds Try.pinned (OpenSpec.ofChange layerJoinsSpec)

/-- ITS FALSE NEIGHBOUR: 'it returns false'. Refute it at one input. -/
def layerJoinsWrong : ChangeSpec := { name := "layerJoins", fn := fun _ => fun
  | [d1, d2, d3] => { results := [.lit (.bool false)], args := [d1, d2, d3] }
  | _ => none }
def LayerJoinsWrongFalsely : Prop := layerJoinsRow.holds Try.pinned (OpenSpec.ofChange layerJoinsWrong)

/-- 'mizzenlaw03.LayerMisses': WHATEVER THE INPUT: true; the input reads as it did. -/
def layerMissesSpec : ChangeSpec := { name := "layerMisses", fn := fun _ => fun
  | [d1, d2, d3] => { results := [.lit (.bool true)], args := [d1, d2, d3] }
  | _ => none }
def layerMissesRow : OpenClaim := { program := "ytcafackiofncmaa", sum := "473749a680e2ed6e8076ba647cd64745e1da80882a7b04f5db618486feff4fbd", func := "mizzen/mizzenlaw03.LayerMisses", spec := "layerMisses", inPlace := ["internal/bytealg.abigen_runtime_cmpstring"], unfollowed := true, recurses := true, loops := true, apart := false }
def LayerMissesSaid : Prop := layerMissesRow.holds Try.pinned (OpenSpec.ofChange layerMissesSpec)

/-- ITS FALSE NEIGHBOUR: 'it returns false'. Refute it at one input. -/
def layerMissesWrong : ChangeSpec := { name := "layerMisses", fn := fun _ => fun
  | [d1, d2, d3] => { results := [.lit (.bool false)], args := [d1, d2, d3] }
  | _ => none }
def LayerMissesWrongFalsely : Prop := layerMissesRow.holds Try.pinned (OpenSpec.ofChange layerMissesWrong)

/-- 'mizzenlaw03.LayerEmpty': WHATEVER THE INPUT: true; the input reads as it did. -/
def layerEmptySpec : ChangeSpec := { name := "layerEmpty", fn := fun _ => fun
  | [d1, d2] => { results := [.lit (.bool true)], args := [d1, d2] }
  | _ => none }
def layerEmptyRow : OpenClaim := { program := "ytcafackiofncmaa", sum := "473749a680e2ed6e8076ba647cd64745e1da80882a7b04f5db618486feff4fbd", func := "mizzen/mizzenlaw03.LayerEmpty", spec := "layerEmpty", inPlace := ["internal/bytealg.abigen_runtime_cmpstring"], unfollowed := true, recurses := true, loops := true, apart := false }
def LayerEmptySaid : Prop := layerEmptyRow.holds Try.pinned (OpenSpec.ofChange layerEmptySpec)

/-- ITS FALSE NEIGHBOUR: 'it returns false'. Refute it at one input. -/
def layerEmptyWrong : ChangeSpec := { name := "layerEmpty", fn := fun _ => fun
  | [d1, d2] => { results := [.lit (.bool false)], args := [d1, d2] }
  | _ => none }
def LayerEmptyWrongFalsely : Prop := layerEmptyRow.holds Try.pinned (OpenSpec.ofChange layerEmptyWrong)

/- THE SECOND FORM. 'bulk': how many values and letters a reading holds, each counted each time it is reached (what is shared counts as often as it is met; a slice's spare places count too). A statement '..UptoSaid' is the law's where the arguments, and the package variables that the reading takes, are together of bulk at most 1048576: NARROWER than '..Said'. Prove '..Said' where nothing that the law and all that it calls make is longer than what came in: it says more and counts as full. Else prove '..UptoSaid'. A law counts once. -/
mutual
def uptoBulk {H : Type} : DataW H → Nat
  | .lit (.string bytes) => bytes.length + 1
  | .lit _ => 1
  | .nil => 1
  | .ptr d => uptoBulk d + 1
  | .slice elems spare => uptoBulkAll elems + uptoBulkAll spare + 1
  | .agg parts => uptoBulkAll parts + 1
  | .iface _ d => uptoBulk d + 1
  | .map entries => uptoBulkEntries entries + 1
  | .held _ => 1
def uptoBulkAll {H : Type} : List (DataW H) → Nat
  | [] => 0
  | d :: r => uptoBulk d + uptoBulkAll r
def uptoBulkEntries {H : Type} : List (Lit × DataW H) → Nat
  | [] => 0
  | x :: r => uptoBulkEntry x + uptoBulkEntries r
def uptoBulkEntry {H : Type} : Lit × DataW H → Nat
  | (.string bytes, d) => bytes.length + uptoBulk d + 1
  | (_, d) => uptoBulk d + 1
 end
def uptoSmall : (H : Type) → List (DataW H) → Bool := fun _ ds => decide (uptoBulkAll ds ≤ 1048576)
def OpenSpec.upto (s : _root_.Go.ChangeSpec) : _root_.Go.OpenSpec := { _root_.Go.OpenSpec.ofChange s with cond := some uptoSmall }

/-- 'mizzenlaw03.LayerOvers', WHERE WHAT IT READS IS OF BULK AT MOST 1048576: true; the input reads as it did. -/
def layerOversUptoRow : OpenClaim := { program := "ytcafackiofncmaa", sum := "473749a680e2ed6e8076ba647cd64745e1da80882a7b04f5db618486feff4fbd", func := "mizzen/mizzenlaw03.LayerOvers", spec := "layerOvers", inPlace := ["internal/bytealg.abigen_runtime_cmpstring"], unfollowed := true, recurses := true, loops := true, apart := false, narrowed := true }
def LayerOversUptoSaid : Prop := layerOversUptoRow.holds Try.pinned (OpenSpec.upto layerOversSpec)

/-- 'mizzenlaw03.LayerDiffs', WHERE WHAT IT READS IS OF BULK AT MOST 1048576: true; the input reads as it did. -/
def layerDiffsUptoRow : OpenClaim := { program := "ytcafackiofncmaa", sum := "473749a680e2ed6e8076ba647cd64745e1da80882a7b04f5db618486feff4fbd", func := "mizzen/mizzenlaw03.LayerDiffs", spec := "layerDiffs", inPlace := ["internal/bytealg.abigen_runtime_cmpstring"], unfollowed := true, recurses := true, loops := true, apart := false, narrowed := true }
def LayerDiffsUptoSaid : Prop := layerDiffsUptoRow.holds Try.pinned (OpenSpec.upto layerDiffsSpec)

/-- 'mizzenlaw03.LayerLast', WHERE WHAT IT READS IS OF BULK AT MOST 1048576: true; the input reads as it did. -/
def layerLastUptoRow : OpenClaim := { program := "ytcafackiofncmaa", sum := "473749a680e2ed6e8076ba647cd64745e1da80882a7b04f5db618486feff4fbd", func := "mizzen/mizzenlaw03.LayerLast", spec := "layerLast", inPlace := ["internal/bytealg.abigen_runtime_cmpstring"], unfollowed := true, recurses := true, loops := true, apart := false, narrowed := true }
def LayerLastUptoSaid : Prop := layerLastUptoRow.holds Try.pinned (OpenSpec.upto layerLastSpec)

/-- 'mizzenlaw03.LayerJoins', WHERE WHAT IT READS IS OF BULK AT MOST 1048576: true; the input reads as it did. -/
def layerJoinsUptoRow : OpenClaim := { program := "ytcafackiofncmaa", sum := "473749a680e2ed6e8076ba647cd64745e1da80882a7b04f5db618486feff4fbd", func := "mizzen/mizzenlaw03.LayerJoins", spec := "layerJoins", inPlace := ["internal/bytealg.abigen_runtime_cmpstring"], unfollowed := true, recurses := true, loops := true, apart := false, narrowed := true }
def LayerJoinsUptoSaid : Prop := layerJoinsUptoRow.holds Try.pinned (OpenSpec.upto layerJoinsSpec)

/-- 'mizzenlaw03.LayerMisses', WHERE WHAT IT READS IS OF BULK AT MOST 1048576: true; the input reads as it did. -/
def layerMissesUptoRow : OpenClaim := { program := "ytcafackiofncmaa", sum := "473749a680e2ed6e8076ba647cd64745e1da80882a7b04f5db618486feff4fbd", func := "mizzen/mizzenlaw03.LayerMisses", spec := "layerMisses", inPlace := ["internal/bytealg.abigen_runtime_cmpstring"], unfollowed := true, recurses := true, loops := true, apart := false, narrowed := true }
def LayerMissesUptoSaid : Prop := layerMissesUptoRow.holds Try.pinned (OpenSpec.upto layerMissesSpec)

/-- 'mizzenlaw03.LayerEmpty', WHERE WHAT IT READS IS OF BULK AT MOST 1048576: true; the input reads as it did. -/
def layerEmptyUptoRow : OpenClaim := { program := "ytcafackiofncmaa", sum := "473749a680e2ed6e8076ba647cd64745e1da80882a7b04f5db618486feff4fbd", func := "mizzen/mizzenlaw03.LayerEmpty", spec := "layerEmpty", inPlace := ["internal/bytealg.abigen_runtime_cmpstring"], unfollowed := true, recurses := true, loops := true, apart := false, narrowed := true }
def LayerEmptyUptoSaid : Prop := layerEmptyUptoRow.holds Try.pinned (OpenSpec.upto layerEmptySpec)

end Rows
end Go.Proofs.Ytcafackiofncmaa
