/-
  DERIVED. GIVEN WITH THE SEED: THE CARDS: each row of YtkonkjaabkmecaaGreatDoorRows.lean that lists a variable, with what it lists TIED to the program's text (the seventh form; the later family's looks); each row that meets fmt, with fmt's text TOLD by the authors' own Lean function (tested against real Go, not proved from fmt's source: count such statements apart). THE CARD IS WHAT COUNTS. Prove the row's statement (the work); the ties are given (YtkonkjaabkmecaaGreatDoorTie.lean); close each card by the builder's one call (the guide's Derived/Test/ToyasCard.lean, 'card_holds'). Laid BY PROGRAM, IN A SANDBOX (cutbox-door.mjs). By AI agents, Wed Nov 11 2026. No macro, syntax, notation, axiom, sorry.
-/
import Derived.Test.YtkonkjaabkmecaaGreatDoorRows
import GoSem.ClaimSeven
namespace Go.Proofs.YtkonkjaabkmecaaGreatDoor
namespace Rows

/-- THE TIED CARD OF 'mizzenlaw08.FuncsCalls'. -/
def funcsCallsCard : Claim7 := { stood := { row := funcsCallsRow, standIns := [], harness := (true, "596334378f2c1d31beda3e4fcf0bf6c55b6dd37d95508ca227fa6f243a2492be"), looks := true }, kinds := [], alts := [], laidByText := true, laidKinds := [.data, .data, .data, .data, .data, .sentinel, .sentinel, .data, .pinned], laidTests := true, laidLooks := .later }
def FuncsCallsCardSaid : Prop := Claim7.holds Tryz.pinned (.plain (OpenSpec.ofChange funcsCallsSpec)) funcsCallsCard

/-- THE TIED CARD OF 'mizzenlaw08.FuncsNames'. -/
def funcsNamesCard : Claim7 := { stood := { row := funcsNamesRow, standIns := [], harness := (true, "596334378f2c1d31beda3e4fcf0bf6c55b6dd37d95508ca227fa6f243a2492be"), looks := true }, kinds := [], alts := [], laidByText := true, laidKinds := [.data, .data, .data, .data, .data, .sentinel, .sentinel, .data, .pinned], laidTests := true, laidLooks := .later }
def FuncsNamesCardSaid : Prop := Claim7.holds Tryz.pinned (.plain (OpenSpec.ofChange funcsNamesSpec)) funcsNamesCard

/-- THE TIED CARD OF 'mizzenlaw08.FuncsOnce'. -/
def funcsOnceCard : Claim7 := { stood := { row := funcsOnceRow, standIns := [], harness := (true, "596334378f2c1d31beda3e4fcf0bf6c55b6dd37d95508ca227fa6f243a2492be"), looks := true }, kinds := [], alts := [], laidByText := true, laidKinds := [.data, .data, .data, .data, .data, .sentinel, .sentinel, .data, .pinned], laidTests := true, laidLooks := .later }
def FuncsOnceCardSaid : Prop := Claim7.holds Tryz.pinned (.plain (OpenSpec.ofChange funcsOnceSpec)) funcsOnceCard

/-- THE TIED CARD OF 'mizzenlaw08.FuncsSums'. -/
def funcsSumsCard : Claim7 := { stood := { row := funcsSumsRow, standIns := [], harness := (true, "596334378f2c1d31beda3e4fcf0bf6c55b6dd37d95508ca227fa6f243a2492be"), looks := true }, kinds := [], alts := [], laidByText := true, laidKinds := [.data, .data, .data, .data, .sentinel, .sentinel, .data, .pinned], laidTests := true, laidLooks := .later }
def FuncsSumsCardSaid : Prop := Claim7.holds Tryz.pinned (.plain (OpenSpec.ofChange funcsSumsSpec)) funcsSumsCard

/-- THE TIED CARD OF 'mizzenlaw08.FuncsLists'. -/
def funcsListsCard : Claim7 := { stood := { row := funcsListsRow, standIns := [], harness := (true, "596334378f2c1d31beda3e4fcf0bf6c55b6dd37d95508ca227fa6f243a2492be"), looks := true }, kinds := [], alts := [], laidByText := true, laidKinds := [.data, .data, .data, .data, .sentinel, .sentinel, .data, .pinned], laidTests := true, laidLooks := .later }
def FuncsListsCardSaid : Prop := Claim7.holds Tryz.pinned (.plain (OpenSpec.ofChange funcsListsSpec)) funcsListsCard

/-- THE TIED CARD OF 'mizzenlaw08.FuncsTexts'. -/
def funcsTextsCard : Claim7 := { stood := { row := funcsTextsRow, standIns := [], harness := (true, "596334378f2c1d31beda3e4fcf0bf6c55b6dd37d95508ca227fa6f243a2492be"), looks := true }, kinds := [], alts := [], laidByText := true, laidKinds := [.data, .data, .data, .data, .sentinel, .sentinel, .data, .pinned], laidTests := true, laidLooks := .later }
def FuncsTextsCardSaid : Prop := Claim7.holds Tryz.pinned (.plain (OpenSpec.ofChange funcsTextsSpec)) funcsTextsCard

/-- THE TIED CARD OF 'mizzenlaw08.FuncsTruths'. -/
def funcsTruthsCard : Claim7 := { stood := { row := funcsTruthsRow, standIns := [], harness := (true, "596334378f2c1d31beda3e4fcf0bf6c55b6dd37d95508ca227fa6f243a2492be"), looks := true }, kinds := [], alts := [], laidByText := true, laidKinds := [.data, .data, .data, .data, .sentinel, .sentinel, .data, .pinned], laidTests := true, laidLooks := .later }
def FuncsTruthsCardSaid : Prop := Claim7.holds Tryz.pinned (.plain (OpenSpec.ofChange funcsTruthsSpec)) funcsTruthsCard

/-- THE SECOND FORM's CARD OF 'mizzenlaw08.FuncsCalls'. -/
def funcsCallsUptoCard : Claim7 := { stood := { row := funcsCallsUptoRow, standIns := [], harness := (true, "596334378f2c1d31beda3e4fcf0bf6c55b6dd37d95508ca227fa6f243a2492be"), looks := true }, kinds := [], alts := [], laidByText := true, laidKinds := [.data, .data, .data, .data, .data, .sentinel, .sentinel, .data, .pinned], laidTests := true, laidLooks := .later }
def FuncsCallsUptoCardSaid : Prop := Claim7.holds Tryz.pinned (.plain (OpenSpec.upto funcsCallsSpec)) funcsCallsUptoCard

/-- THE SECOND FORM's CARD OF 'mizzenlaw08.FuncsNames'. -/
def funcsNamesUptoCard : Claim7 := { stood := { row := funcsNamesUptoRow, standIns := [], harness := (true, "596334378f2c1d31beda3e4fcf0bf6c55b6dd37d95508ca227fa6f243a2492be"), looks := true }, kinds := [], alts := [], laidByText := true, laidKinds := [.data, .data, .data, .data, .data, .sentinel, .sentinel, .data, .pinned], laidTests := true, laidLooks := .later }
def FuncsNamesUptoCardSaid : Prop := Claim7.holds Tryz.pinned (.plain (OpenSpec.upto funcsNamesSpec)) funcsNamesUptoCard

/-- THE SECOND FORM's CARD OF 'mizzenlaw08.FuncsOnce'. -/
def funcsOnceUptoCard : Claim7 := { stood := { row := funcsOnceUptoRow, standIns := [], harness := (true, "596334378f2c1d31beda3e4fcf0bf6c55b6dd37d95508ca227fa6f243a2492be"), looks := true }, kinds := [], alts := [], laidByText := true, laidKinds := [.data, .data, .data, .data, .data, .sentinel, .sentinel, .data, .pinned], laidTests := true, laidLooks := .later }
def FuncsOnceUptoCardSaid : Prop := Claim7.holds Tryz.pinned (.plain (OpenSpec.upto funcsOnceSpec)) funcsOnceUptoCard

/-- THE SECOND FORM's CARD OF 'mizzenlaw08.FuncsSums'. -/
def funcsSumsUptoCard : Claim7 := { stood := { row := funcsSumsUptoRow, standIns := [], harness := (true, "596334378f2c1d31beda3e4fcf0bf6c55b6dd37d95508ca227fa6f243a2492be"), looks := true }, kinds := [], alts := [], laidByText := true, laidKinds := [.data, .data, .data, .data, .sentinel, .sentinel, .data, .pinned], laidTests := true, laidLooks := .later }
def FuncsSumsUptoCardSaid : Prop := Claim7.holds Tryz.pinned (.plain (OpenSpec.upto funcsSumsSpec)) funcsSumsUptoCard

/-- THE SECOND FORM's CARD OF 'mizzenlaw08.FuncsLists'. -/
def funcsListsUptoCard : Claim7 := { stood := { row := funcsListsUptoRow, standIns := [], harness := (true, "596334378f2c1d31beda3e4fcf0bf6c55b6dd37d95508ca227fa6f243a2492be"), looks := true }, kinds := [], alts := [], laidByText := true, laidKinds := [.data, .data, .data, .data, .sentinel, .sentinel, .data, .pinned], laidTests := true, laidLooks := .later }
def FuncsListsUptoCardSaid : Prop := Claim7.holds Tryz.pinned (.plain (OpenSpec.upto funcsListsSpec)) funcsListsUptoCard

/-- THE SECOND FORM's CARD OF 'mizzenlaw08.FuncsTexts'. -/
def funcsTextsUptoCard : Claim7 := { stood := { row := funcsTextsUptoRow, standIns := [], harness := (true, "596334378f2c1d31beda3e4fcf0bf6c55b6dd37d95508ca227fa6f243a2492be"), looks := true }, kinds := [], alts := [], laidByText := true, laidKinds := [.data, .data, .data, .data, .sentinel, .sentinel, .data, .pinned], laidTests := true, laidLooks := .later }
def FuncsTextsUptoCardSaid : Prop := Claim7.holds Tryz.pinned (.plain (OpenSpec.upto funcsTextsSpec)) funcsTextsUptoCard

/-- THE SECOND FORM's CARD OF 'mizzenlaw08.FuncsTruths'. -/
def funcsTruthsUptoCard : Claim7 := { stood := { row := funcsTruthsUptoRow, standIns := [], harness := (true, "596334378f2c1d31beda3e4fcf0bf6c55b6dd37d95508ca227fa6f243a2492be"), looks := true }, kinds := [], alts := [], laidByText := true, laidKinds := [.data, .data, .data, .data, .sentinel, .sentinel, .data, .pinned], laidTests := true, laidLooks := .later }
def FuncsTruthsUptoCardSaid : Prop := Claim7.holds Tryz.pinned (.plain (OpenSpec.upto funcsTruthsSpec)) funcsTruthsUptoCard
end Rows
end Go.Proofs.YtkonkjaabkmecaaGreatDoor
