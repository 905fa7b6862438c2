/-
  NARROWER THAN 'FOR EVERY INPUT', by the rows' own cells (each row's printed sentence says how): TrimPlain: laid · TrimTrims: laid · TrimJoins: laid · TrimQuotes: laid · TrimEnds: laid.
  DERIVED. THE GIVEN ROWS OF THIS SEAT. 5 by the template 'for every input the law returns true; each argument reads behind the call as it read before'; 0 by the template 'total and deterministic' (their statements: YtomdkmhaohcofaaDoorTotals.lean).
  GIVEN WITH THE SEED: the statements are not yours to turn. If you find one false, say at which input.
  Laid BY PROGRAM, IN A SANDBOX (cutbox-rows.mjs): the forced cells as the released guide's own fill.sh prints them over the translation 395d62aa5dac8156… (all of the seat's roots in one cut). By AI agents, Wed Nov 11 2026. No macro, syntax, notation, axiom, sorry.
-/
import Derived.Test.YtomdkmhaohcofaaDoorChecked
import GoSem.PinnedTables
import GoSem.Claim
import GoSem.ClaimJoined
import GoSem.ClaimMapViews
import Derived.JoinedTies
import Derived.KernelRfl
namespace Go.Proofs.YtomdkmhaohcofaaDoor
/- THE CELL 'sum', in the pinned program and in every row, IS THE sha256 OF THE DUMP (.gsa) THAT YtomdkmhaohcofaaDoorProg.lean LOADS. Nothing in Lean hashes anything: it is a label: what it is worth is what the hold of that sum in a sandbox is worth. -/
noncomputable def Tryd.pinned : Pinned := { name := "ytomdkmhaohcofaadoor", sum := "395d62aa5dac8156db087b5285c5b5d37c1d1db5953060011e6df76515a58c2a", checked := Tryd.checked }
namespace Rows
def none {H : Type} : Left H := { results := [], args := [] }

/- WHAT THE LISTED PACKAGE-LEVEL VARIABLES READ AS WHEN THE CALL BEGINS. Each datum BY PROGRAM (the guide's laid-datum.mjs) off the statement by which the dump's own 'gosem.cut.vars' lays the variable. In a bare row this is a premise. The card (YtomdkmhaohcofaaDoorCards.lean) ties it to the program's text. -/
def laid_unicode_utf8_acceptRanges {H : Type} : DataW H := .agg [.agg [.lit (.int .u8 128), .lit (.int .u8 191)], .agg [.lit (.int .u8 160), .lit (.int .u8 191)], .agg [.lit (.int .u8 128), .lit (.int .u8 159)], .agg [.lit (.int .u8 144), .lit (.int .u8 191)], .agg [.lit (.int .u8 128), .lit (.int .u8 143)], .agg [.lit (.int .u8 0), .lit (.int .u8 0)], .agg [.lit (.int .u8 0), .lit (.int .u8 0)], .agg [.lit (.int .u8 0), .lit (.int .u8 0)], .agg [.lit (.int .u8 0), .lit (.int .u8 0)], .agg [.lit (.int .u8 0), .lit (.int .u8 0)], .agg [.lit (.int .u8 0), .lit (.int .u8 0)], .agg [.lit (.int .u8 0), .lit (.int .u8 0)], .agg [.lit (.int .u8 0), .lit (.int .u8 0)], .agg [.lit (.int .u8 0), .lit (.int .u8 0)], .agg [.lit (.int .u8 0), .lit (.int .u8 0)], .agg [.lit (.int .u8 0), .lit (.int .u8 0)]]
/-- One of Go's own tables, pinned by name: the form's constant. -/
def laid_unicode_utf8_first : DataW Unit := Go.Pinned.utf8First

/-- 'mizzenlaw06.TrimPlain': WHATEVER THE INPUT: true; the input reads as it did. -/
def trimPlainSpec : ChangeSpec := { name := "trimPlain", fn := fun _ => fun
  | [d] => { results := [.lit (.bool true)], args := [d] }
  | _ => none }
def trimPlainRow : OpenClaim := { program := "ytomdkmhaohcofaadoor", sum := "395d62aa5dac8156db087b5285c5b5d37c1d1db5953060011e6df76515a58c2a", func := "mizzen/mizzenlaw06.TrimPlain", spec := "trimPlain", inPlace := ["internal/bytealg.IndexByteString", "internal/bytealg.IndexString"], named := ["internal/bytealg.MaxLen", "unicode/utf8.first", "unicode/utf8.acceptRanges"], apart := false, laid := [("unicode/utf8.acceptRanges", laid_unicode_utf8_acceptRanges), ("unicode/utf8.first", laid_unicode_utf8_first)] }
def TrimPlainSaid : Prop := trimPlainRow.holds Tryd.pinned (OpenSpec.ofChange trimPlainSpec)

/-- ITS FALSE NEIGHBOUR: 'it returns false'. Refute it at one input. -/
def trimPlainWrong : ChangeSpec := { name := "trimPlain", fn := fun _ => fun
  | [d] => { results := [.lit (.bool false)], args := [d] }
  | _ => none }
def TrimPlainWrongFalsely : Prop := trimPlainRow.holds Tryd.pinned (OpenSpec.ofChange trimPlainWrong)

/-- 'mizzenlaw06.TrimTrims': WHATEVER THE INPUT: true; the input reads as it did. -/
def trimTrimsSpec : ChangeSpec := { name := "trimTrims", fn := fun _ => fun
  | [d1, d2] => { results := [.lit (.bool true)], args := [d1, d2] }
  | _ => none }
def trimTrimsRow : OpenClaim := { program := "ytomdkmhaohcofaadoor", sum := "395d62aa5dac8156db087b5285c5b5d37c1d1db5953060011e6df76515a58c2a", func := "mizzen/mizzenlaw06.TrimTrims", spec := "trimTrims", inPlace := ["internal/bytealg.IndexByteString", "internal/bytealg.IndexString"], named := ["internal/bytealg.MaxLen", "unicode/utf8.first", "unicode/utf8.acceptRanges"], apart := false, laid := [("unicode/utf8.acceptRanges", laid_unicode_utf8_acceptRanges), ("unicode/utf8.first", laid_unicode_utf8_first)] }
def TrimTrimsSaid : Prop := trimTrimsRow.holds Tryd.pinned (OpenSpec.ofChange trimTrimsSpec)

/-- ITS FALSE NEIGHBOUR: 'it returns false'. Refute it at one input. -/
def trimTrimsWrong : ChangeSpec := { name := "trimTrims", fn := fun _ => fun
  | [d1, d2] => { results := [.lit (.bool false)], args := [d1, d2] }
  | _ => none }
def TrimTrimsWrongFalsely : Prop := trimTrimsRow.holds Tryd.pinned (OpenSpec.ofChange trimTrimsWrong)

/-- 'mizzenlaw06.TrimJoins': WHATEVER THE INPUT: true; the input reads as it did. -/
def trimJoinsSpec : ChangeSpec := { name := "trimJoins", fn := fun _ => fun
  | [d1, d2] => { results := [.lit (.bool true)], args := [d1, d2] }
  | _ => none }
def trimJoinsRow : OpenClaim := { program := "ytomdkmhaohcofaadoor", sum := "395d62aa5dac8156db087b5285c5b5d37c1d1db5953060011e6df76515a58c2a", func := "mizzen/mizzenlaw06.TrimJoins", spec := "trimJoins", inPlace := ["internal/bytealg.IndexByteString", "internal/bytealg.IndexString"], named := ["internal/bytealg.MaxLen", "unicode/utf8.first", "unicode/utf8.acceptRanges"], apart := false, laid := [("unicode/utf8.acceptRanges", laid_unicode_utf8_acceptRanges), ("unicode/utf8.first", laid_unicode_utf8_first)] }
def TrimJoinsSaid : Prop := trimJoinsRow.holds Tryd.pinned (OpenSpec.ofChange trimJoinsSpec)

/-- ITS FALSE NEIGHBOUR: 'it returns false'. Refute it at one input. -/
def trimJoinsWrong : ChangeSpec := { name := "trimJoins", fn := fun _ => fun
  | [d1, d2] => { results := [.lit (.bool false)], args := [d1, d2] }
  | _ => none }
def TrimJoinsWrongFalsely : Prop := trimJoinsRow.holds Tryd.pinned (OpenSpec.ofChange trimJoinsWrong)

/-- 'mizzenlaw06.TrimQuotes': WHATEVER THE INPUT: true; the input reads as it did. -/
def trimQuotesSpec : ChangeSpec := { name := "trimQuotes", fn := fun _ => fun
  | [d1, d2] => { results := [.lit (.bool true)], args := [d1, d2] }
  | _ => none }
def trimQuotesRow : OpenClaim := { program := "ytomdkmhaohcofaadoor", sum := "395d62aa5dac8156db087b5285c5b5d37c1d1db5953060011e6df76515a58c2a", func := "mizzen/mizzenlaw06.TrimQuotes", spec := "trimQuotes", inPlace := ["internal/bytealg.IndexByteString", "internal/bytealg.IndexString"], named := ["internal/bytealg.MaxLen", "unicode/utf8.first", "unicode/utf8.acceptRanges"], apart := false, laid := [("unicode/utf8.acceptRanges", laid_unicode_utf8_acceptRanges), ("unicode/utf8.first", laid_unicode_utf8_first)] }
def TrimQuotesSaid : Prop := trimQuotesRow.holds Tryd.pinned (OpenSpec.ofChange trimQuotesSpec)

/-- ITS FALSE NEIGHBOUR: 'it returns false'. Refute it at one input. -/
def trimQuotesWrong : ChangeSpec := { name := "trimQuotes", fn := fun _ => fun
  | [d1, d2] => { results := [.lit (.bool false)], args := [d1, d2] }
  | _ => none }
def TrimQuotesWrongFalsely : Prop := trimQuotesRow.holds Tryd.pinned (OpenSpec.ofChange trimQuotesWrong)

/-- 'mizzenlaw06.TrimEnds': WHATEVER THE INPUT: true; the input reads as it did. -/
def trimEndsSpec : ChangeSpec := { name := "trimEnds", fn := fun _ => fun
  | [d1, d2] => { results := [.lit (.bool true)], args := [d1, d2] }
  | _ => none }
def trimEndsRow : OpenClaim := { program := "ytomdkmhaohcofaadoor", sum := "395d62aa5dac8156db087b5285c5b5d37c1d1db5953060011e6df76515a58c2a", func := "mizzen/mizzenlaw06.TrimEnds", spec := "trimEnds", inPlace := ["internal/bytealg.IndexByteString", "internal/bytealg.IndexString"], named := ["internal/bytealg.MaxLen", "unicode/utf8.first", "unicode/utf8.acceptRanges"], apart := false, laid := [("unicode/utf8.acceptRanges", laid_unicode_utf8_acceptRanges), ("unicode/utf8.first", laid_unicode_utf8_first)] }
def TrimEndsSaid : Prop := trimEndsRow.holds Tryd.pinned (OpenSpec.ofChange trimEndsSpec)

/-- ITS FALSE NEIGHBOUR: 'it returns false'. Refute it at one input. -/
def trimEndsWrong : ChangeSpec := { name := "trimEnds", fn := fun _ => fun
  | [d1, d2] => { results := [.lit (.bool false)], args := [d1, d2] }
  | _ => none }
def TrimEndsWrongFalsely : Prop := trimEndsRow.holds Tryd.pinned (OpenSpec.ofChange trimEndsWrong)

/- THE SECOND FORM. 'bulk': how many values and letters a reading holds, each counted each time it is reached (what is shared counts as often as it is met; a slice's spare places count too). A statement '..UptoSaid' is the law's where the arguments, and the package variables that the reading takes, are together of bulk at most 1048576: NARROWER than '..Said'. Prove '..Said' where nothing that the law and all that it calls make is longer than what came in: it says more and counts as full. Else prove '..UptoSaid'. A law counts once. -/
mutual
def uptoBulk {H : Type} : DataW H → Nat
  | .lit (.string bytes) => bytes.length + 1
  | .lit _ => 1
  | .nil => 1
  | .ptr d => uptoBulk d + 1
  | .slice elems spare => uptoBulkAll elems + uptoBulkAll spare + 1
  | .agg parts => uptoBulkAll parts + 1
  | .iface _ d => uptoBulk d + 1
  | .map entries => uptoBulkEntries entries + 1
  | .held _ => 1
def uptoBulkAll {H : Type} : List (DataW H) → Nat
  | [] => 0
  | d :: r => uptoBulk d + uptoBulkAll r
def uptoBulkEntries {H : Type} : List (Lit × DataW H) → Nat
  | [] => 0
  | x :: r => uptoBulkEntry x + uptoBulkEntries r
def uptoBulkEntry {H : Type} : Lit × DataW H → Nat
  | (.string bytes, d) => bytes.length + uptoBulk d + 1
  | (_, d) => uptoBulk d + 1
 end
def uptoSmall : (H : Type) → List (DataW H) → Bool := fun _ ds => decide (uptoBulkAll ds ≤ 1048576)
def OpenSpec.upto (s : _root_.Go.ChangeSpec) : _root_.Go.OpenSpec := { _root_.Go.OpenSpec.ofChange s with cond := some uptoSmall }

/-- 'mizzenlaw06.TrimPlain', WHERE WHAT IT READS IS OF BULK AT MOST 1048576: true; the input reads as it did. -/
def trimPlainUptoRow : OpenClaim := { program := "ytomdkmhaohcofaadoor", sum := "395d62aa5dac8156db087b5285c5b5d37c1d1db5953060011e6df76515a58c2a", func := "mizzen/mizzenlaw06.TrimPlain", spec := "trimPlain", inPlace := ["internal/bytealg.IndexByteString", "internal/bytealg.IndexString"], named := ["internal/bytealg.MaxLen", "unicode/utf8.first", "unicode/utf8.acceptRanges"], apart := false, laid := [("unicode/utf8.acceptRanges", laid_unicode_utf8_acceptRanges), ("unicode/utf8.first", laid_unicode_utf8_first)], narrowed := true }
def TrimPlainUptoSaid : Prop := trimPlainUptoRow.holds Tryd.pinned (OpenSpec.upto trimPlainSpec)

/-- 'mizzenlaw06.TrimTrims', WHERE WHAT IT READS IS OF BULK AT MOST 1048576: true; the input reads as it did. -/
def trimTrimsUptoRow : OpenClaim := { program := "ytomdkmhaohcofaadoor", sum := "395d62aa5dac8156db087b5285c5b5d37c1d1db5953060011e6df76515a58c2a", func := "mizzen/mizzenlaw06.TrimTrims", spec := "trimTrims", inPlace := ["internal/bytealg.IndexByteString", "internal/bytealg.IndexString"], named := ["internal/bytealg.MaxLen", "unicode/utf8.first", "unicode/utf8.acceptRanges"], apart := false, laid := [("unicode/utf8.acceptRanges", laid_unicode_utf8_acceptRanges), ("unicode/utf8.first", laid_unicode_utf8_first)], narrowed := true }
def TrimTrimsUptoSaid : Prop := trimTrimsUptoRow.holds Tryd.pinned (OpenSpec.upto trimTrimsSpec)

/-- 'mizzenlaw06.TrimJoins', WHERE WHAT IT READS IS OF BULK AT MOST 1048576: true; the input reads as it did. -/
def trimJoinsUptoRow : OpenClaim := { program := "ytomdkmhaohcofaadoor", sum := "395d62aa5dac8156db087b5285c5b5d37c1d1db5953060011e6df76515a58c2a", func := "mizzen/mizzenlaw06.TrimJoins", spec := "trimJoins", inPlace := ["internal/bytealg.IndexByteString", "internal/bytealg.IndexString"], named := ["internal/bytealg.MaxLen", "unicode/utf8.first", "unicode/utf8.acceptRanges"], apart := false, laid := [("unicode/utf8.acceptRanges", laid_unicode_utf8_acceptRanges), ("unicode/utf8.first", laid_unicode_utf8_first)], narrowed := true }
def TrimJoinsUptoSaid : Prop := trimJoinsUptoRow.holds Tryd.pinned (OpenSpec.upto trimJoinsSpec)

/-- 'mizzenlaw06.TrimQuotes', WHERE WHAT IT READS IS OF BULK AT MOST 1048576: true; the input reads as it did. -/
def trimQuotesUptoRow : OpenClaim := { program := "ytomdkmhaohcofaadoor", sum := "395d62aa5dac8156db087b5285c5b5d37c1d1db5953060011e6df76515a58c2a", func := "mizzen/mizzenlaw06.TrimQuotes", spec := "trimQuotes", inPlace := ["internal/bytealg.IndexByteString", "internal/bytealg.IndexString"], named := ["internal/bytealg.MaxLen", "unicode/utf8.first", "unicode/utf8.acceptRanges"], apart := false, laid := [("unicode/utf8.acceptRanges", laid_unicode_utf8_acceptRanges), ("unicode/utf8.first", laid_unicode_utf8_first)], narrowed := true }
def TrimQuotesUptoSaid : Prop := trimQuotesUptoRow.holds Tryd.pinned (OpenSpec.upto trimQuotesSpec)

/-- 'mizzenlaw06.TrimEnds', WHERE WHAT IT READS IS OF BULK AT MOST 1048576: true; the input reads as it did. -/
def trimEndsUptoRow : OpenClaim := { program := "ytomdkmhaohcofaadoor", sum := "395d62aa5dac8156db087b5285c5b5d37c1d1db5953060011e6df76515a58c2a", func := "mizzen/mizzenlaw06.TrimEnds", spec := "trimEnds", inPlace := ["internal/bytealg.IndexByteString", "internal/bytealg.IndexString"], named := ["internal/bytealg.MaxLen", "unicode/utf8.first", "unicode/utf8.acceptRanges"], apart := false, laid := [("unicode/utf8.acceptRanges", laid_unicode_utf8_acceptRanges), ("unicode/utf8.first", laid_unicode_utf8_first)], narrowed := true }
def TrimEndsUptoSaid : Prop := trimEndsUptoRow.holds Tryd.pinned (OpenSpec.upto trimEndsSpec)

end Rows
end Go.Proofs.YtomdkmhaohcofaaDoor
