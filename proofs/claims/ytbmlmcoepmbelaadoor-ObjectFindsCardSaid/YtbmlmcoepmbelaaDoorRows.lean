/-
  NARROWER THAN 'FOR EVERY INPUT', by the rows' own cells (each row's printed sentence says how): ObjectReads: loops, laid · ObjectKeys: laid · ObjectFinds: loops, laid.
  DERIVED. THE GIVEN ROWS OF THIS SEAT. 3 by the template 'for every input the law returns true; each argument reads behind the call as it read before'; 0 by the template 'total and deterministic' (their statements: YtbmlmcoepmbelaaDoorTotals.lean).
  GIVEN WITH THE SEED: the statements are not yours to turn. If you find one false, say at which input.
  Laid BY PROGRAM, IN A SANDBOX (cutbox-rows.mjs): the forced cells as the released guide's own fill.sh prints them over the translation 8dba625b27dcd85f… (all of the seat's roots in one cut). By AI agents, Wed Nov 11 2026. No macro, syntax, notation, axiom, sorry.
-/
import Derived.Test.YtbmlmcoepmbelaaDoorChecked
import GoSem.PinnedTables
import GoSem.Claim
import GoSem.ClaimJoined
import GoSem.ClaimMapViews
import Derived.JoinedTies
import Derived.KernelRfl
namespace Go.Proofs.YtbmlmcoepmbelaaDoor
/- THE CELL 'sum', in the pinned program and in every row, IS THE sha256 OF THE DUMP (.gsa) THAT YtbmlmcoepmbelaaDoorProg.lean LOADS. Nothing in Lean hashes anything: it is a label: what it is worth is what the hold of that sum in a sandbox is worth. -/
noncomputable def Tryd.pinned : Pinned := { name := "ytbmlmcoepmbelaadoor", sum := "8dba625b27dcd85fb7df57ac24031198303f1a3a59d8c09a87c8bb90271ec03a", checked := Tryd.checked }
namespace Rows
def none {H : Type} : Left H := { results := [], args := [] }

/- WHAT THE LISTED PACKAGE-LEVEL VARIABLES READ AS WHEN THE CALL BEGINS. Each datum BY PROGRAM (the guide's laid-datum.mjs) off the statement by which the dump's own 'gosem.cut.vars' lays the variable. In a bare row this is a premise. The card (YtbmlmcoepmbelaaDoorCards.lean) ties it to the program's text. -/
def laid_unicode_utf8_acceptRanges {H : Type} : DataW H := .agg [.agg [.lit (.int .u8 128), .lit (.int .u8 191)], .agg [.lit (.int .u8 160), .lit (.int .u8 191)], .agg [.lit (.int .u8 128), .lit (.int .u8 159)], .agg [.lit (.int .u8 144), .lit (.int .u8 191)], .agg [.lit (.int .u8 128), .lit (.int .u8 143)], .agg [.lit (.int .u8 0), .lit (.int .u8 0)], .agg [.lit (.int .u8 0), .lit (.int .u8 0)], .agg [.lit (.int .u8 0), .lit (.int .u8 0)], .agg [.lit (.int .u8 0), .lit (.int .u8 0)], .agg [.lit (.int .u8 0), .lit (.int .u8 0)], .agg [.lit (.int .u8 0), .lit (.int .u8 0)], .agg [.lit (.int .u8 0), .lit (.int .u8 0)], .agg [.lit (.int .u8 0), .lit (.int .u8 0)], .agg [.lit (.int .u8 0), .lit (.int .u8 0)], .agg [.lit (.int .u8 0), .lit (.int .u8 0)], .agg [.lit (.int .u8 0), .lit (.int .u8 0)]]
def laid_mizzen_object_ranked {H : Type} : DataW H := .agg [.lit (.string [78, 97, 109, 101, 115, 112, 97, 99, 101]), .lit (.string [83, 101, 99, 114, 101, 116]), .lit (.string [67, 111, 110, 102, 105, 103, 77, 97, 112]), .lit (.string [86, 111, 108, 117, 109, 101]), .lit (.string [65, 99, 99, 111, 117, 110, 116]), .lit (.string [82, 111, 108, 101]), .lit (.string [83, 101, 114, 118, 105, 99, 101]), .lit (.string [68, 101, 112, 108, 111, 121, 109, 101, 110, 116]), .lit (.string [74, 111, 98]), .lit (.string [73, 110, 103, 114, 101, 115, 115])]
/-- One of Go's own tables, pinned by name: the form's constant. -/
def laid_unicode_utf8_first : DataW Unit := Go.Pinned.utf8First

/-- 'mizzenlaw12.ObjectReads': WHATEVER THE INPUT: true; the input reads as it did. -/
def objectReadsSpec : ChangeSpec := { name := "objectReads", fn := fun _ => fun
  | [d1, d2] => { results := [.lit (.bool true)], args := [d1, d2] }
  | _ => none }
def objectReadsRow : OpenClaim := { program := "ytbmlmcoepmbelaadoor", sum := "8dba625b27dcd85fb7df57ac24031198303f1a3a59d8c09a87c8bb90271ec03a", func := "mizzen/mizzenlaw12.ObjectReads", spec := "objectReads", inPlace := ["internal/bytealg.IndexByteString", "internal/bytealg.IndexString", "internal/bytealg.abigen_runtime_cmpstring", "internal/bytealg.CountString"], unfollowed := true, recurses := true, named := ["internal/bytealg.MaxLen", "mizzen/object.ranked", "unicode/utf8.first", "unicode/utf8.acceptRanges"], loops := true, apart := false, laid := [("unicode/utf8.acceptRanges", laid_unicode_utf8_acceptRanges), ("mizzen/object.ranked", laid_mizzen_object_ranked), ("unicode/utf8.first", laid_unicode_utf8_first)] }
def ObjectReadsSaid : Prop := objectReadsRow.holds Tryd.pinned (OpenSpec.ofChange objectReadsSpec)

/-- ITS FALSE NEIGHBOUR: 'it returns false'. Refute it at one input. -/
def objectReadsWrong : ChangeSpec := { name := "objectReads", fn := fun _ => fun
  | [d1, d2] => { results := [.lit (.bool false)], args := [d1, d2] }
  | _ => none }
def ObjectReadsWrongFalsely : Prop := objectReadsRow.holds Tryd.pinned (OpenSpec.ofChange objectReadsWrong)

/-- 'mizzenlaw12.ObjectKeys': WHATEVER THE INPUT: true; the input reads as it did. -/
def objectKeysSpec : ChangeSpec := { name := "objectKeys", fn := fun _ => fun
  | [d1, d2] => { results := [.lit (.bool true)], args := [d1, d2] }
  | _ => none }
def objectKeysRow : OpenClaim := { program := "ytbmlmcoepmbelaadoor", sum := "8dba625b27dcd85fb7df57ac24031198303f1a3a59d8c09a87c8bb90271ec03a", func := "mizzen/mizzenlaw12.ObjectKeys", spec := "objectKeys", inPlace := ["internal/bytealg.IndexByteString", "internal/bytealg.IndexString", "internal/bytealg.abigen_runtime_cmpstring"], unfollowed := true, recurses := true, named := ["internal/bytealg.MaxLen", "mizzen/object.ranked"], apart := false, laid := [("mizzen/object.ranked", laid_mizzen_object_ranked)] }
def ObjectKeysSaid : Prop := objectKeysRow.holds Tryd.pinned (OpenSpec.ofChange objectKeysSpec)

/-- ITS FALSE NEIGHBOUR: 'it returns false'. Refute it at one input. -/
def objectKeysWrong : ChangeSpec := { name := "objectKeys", fn := fun _ => fun
  | [d1, d2] => { results := [.lit (.bool false)], args := [d1, d2] }
  | _ => none }
def ObjectKeysWrongFalsely : Prop := objectKeysRow.holds Tryd.pinned (OpenSpec.ofChange objectKeysWrong)

/-- 'mizzenlaw12.ObjectFinds': WHATEVER THE INPUT: true; the input reads as it did. -/
def objectFindsSpec : ChangeSpec := { name := "objectFinds", fn := fun _ => fun
  | [d] => { results := [.lit (.bool true)], args := [d] }
  | _ => none }
def objectFindsRow : OpenClaim := { program := "ytbmlmcoepmbelaadoor", sum := "8dba625b27dcd85fb7df57ac24031198303f1a3a59d8c09a87c8bb90271ec03a", func := "mizzen/mizzenlaw12.ObjectFinds", spec := "objectFinds", inPlace := ["internal/bytealg.IndexByteString", "internal/bytealg.IndexString", "internal/bytealg.abigen_runtime_cmpstring"], unfollowed := true, recurses := true, named := ["internal/bytealg.MaxLen", "mizzen/object.ranked"], loops := true, apart := false, laid := [("mizzen/object.ranked", laid_mizzen_object_ranked)] }
def ObjectFindsSaid : Prop := objectFindsRow.holds Tryd.pinned (OpenSpec.ofChange objectFindsSpec)

/-- ITS FALSE NEIGHBOUR: 'it returns false'. Refute it at one input. -/
def objectFindsWrong : ChangeSpec := { name := "objectFinds", fn := fun _ => fun
  | [d] => { results := [.lit (.bool false)], args := [d] }
  | _ => none }
def ObjectFindsWrongFalsely : Prop := objectFindsRow.holds Tryd.pinned (OpenSpec.ofChange objectFindsWrong)

/- THE SECOND FORM. 'bulk': how many values and letters a reading holds, each counted each time it is reached (what is shared counts as often as it is met; a slice's spare places count too). A statement '..UptoSaid' is the law's where the arguments, and the package variables that the reading takes, are together of bulk at most 1048576: NARROWER than '..Said'. Prove '..Said' where nothing that the law and all that it calls make is longer than what came in: it says more and counts as full. Else prove '..UptoSaid'. A law counts once. -/
mutual
def uptoBulk {H : Type} : DataW H → Nat
  | .lit (.string bytes) => bytes.length + 1
  | .lit _ => 1
  | .nil => 1
  | .ptr d => uptoBulk d + 1
  | .slice elems spare => uptoBulkAll elems + uptoBulkAll spare + 1
  | .agg parts => uptoBulkAll parts + 1
  | .iface _ d => uptoBulk d + 1
  | .map entries => uptoBulkEntries entries + 1
  | .held _ => 1
def uptoBulkAll {H : Type} : List (DataW H) → Nat
  | [] => 0
  | d :: r => uptoBulk d + uptoBulkAll r
def uptoBulkEntries {H : Type} : List (Lit × DataW H) → Nat
  | [] => 0
  | x :: r => uptoBulkEntry x + uptoBulkEntries r
def uptoBulkEntry {H : Type} : Lit × DataW H → Nat
  | (.string bytes, d) => bytes.length + uptoBulk d + 1
  | (_, d) => uptoBulk d + 1
 end
def uptoSmall : (H : Type) → List (DataW H) → Bool := fun _ ds => decide (uptoBulkAll ds ≤ 1048576)
def OpenSpec.upto (s : _root_.Go.ChangeSpec) : _root_.Go.OpenSpec := { _root_.Go.OpenSpec.ofChange s with cond := some uptoSmall }

/-- 'mizzenlaw12.ObjectReads', WHERE WHAT IT READS IS OF BULK AT MOST 1048576: true; the input reads as it did. -/
def objectReadsUptoRow : OpenClaim := { program := "ytbmlmcoepmbelaadoor", sum := "8dba625b27dcd85fb7df57ac24031198303f1a3a59d8c09a87c8bb90271ec03a", func := "mizzen/mizzenlaw12.ObjectReads", spec := "objectReads", inPlace := ["internal/bytealg.IndexByteString", "internal/bytealg.IndexString", "internal/bytealg.abigen_runtime_cmpstring", "internal/bytealg.CountString"], unfollowed := true, recurses := true, named := ["internal/bytealg.MaxLen", "mizzen/object.ranked", "unicode/utf8.first", "unicode/utf8.acceptRanges"], loops := true, apart := false, laid := [("unicode/utf8.acceptRanges", laid_unicode_utf8_acceptRanges), ("mizzen/object.ranked", laid_mizzen_object_ranked), ("unicode/utf8.first", laid_unicode_utf8_first)], narrowed := true }
def ObjectReadsUptoSaid : Prop := objectReadsUptoRow.holds Tryd.pinned (OpenSpec.upto objectReadsSpec)

/-- 'mizzenlaw12.ObjectKeys', WHERE WHAT IT READS IS OF BULK AT MOST 1048576: true; the input reads as it did. -/
def objectKeysUptoRow : OpenClaim := { program := "ytbmlmcoepmbelaadoor", sum := "8dba625b27dcd85fb7df57ac24031198303f1a3a59d8c09a87c8bb90271ec03a", func := "mizzen/mizzenlaw12.ObjectKeys", spec := "objectKeys", inPlace := ["internal/bytealg.IndexByteString", "internal/bytealg.IndexString", "internal/bytealg.abigen_runtime_cmpstring"], unfollowed := true, recurses := true, named := ["internal/bytealg.MaxLen", "mizzen/object.ranked"], apart := false, laid := [("mizzen/object.ranked", laid_mizzen_object_ranked)], narrowed := true }
def ObjectKeysUptoSaid : Prop := objectKeysUptoRow.holds Tryd.pinned (OpenSpec.upto objectKeysSpec)

/-- 'mizzenlaw12.ObjectFinds', WHERE WHAT IT READS IS OF BULK AT MOST 1048576: true; the input reads as it did. -/
def objectFindsUptoRow : OpenClaim := { program := "ytbmlmcoepmbelaadoor", sum := "8dba625b27dcd85fb7df57ac24031198303f1a3a59d8c09a87c8bb90271ec03a", func := "mizzen/mizzenlaw12.ObjectFinds", spec := "objectFinds", inPlace := ["internal/bytealg.IndexByteString", "internal/bytealg.IndexString", "internal/bytealg.abigen_runtime_cmpstring"], unfollowed := true, recurses := true, named := ["internal/bytealg.MaxLen", "mizzen/object.ranked"], loops := true, apart := false, laid := [("mizzen/object.ranked", laid_mizzen_object_ranked)], narrowed := true }
def ObjectFindsUptoSaid : Prop := objectFindsUptoRow.holds Tryd.pinned (OpenSpec.upto objectFindsSpec)

end Rows
end Go.Proofs.YtbmlmcoepmbelaaDoor
