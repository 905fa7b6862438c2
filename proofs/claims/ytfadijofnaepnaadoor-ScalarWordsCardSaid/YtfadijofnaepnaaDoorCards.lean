/-
  DERIVED. GIVEN WITH THE SEED: THE CARDS: each row of YtfadijofnaepnaaDoorRows.lean that lists a variable, with what it lists TIED to the program's text (the seventh form; the later family's looks); each row that meets fmt, with fmt's text TOLD by the authors' own Lean function (tested against real Go, not proved from fmt's source: count such statements apart). THE CARD IS WHAT COUNTS. Prove the row's statement (the work); the ties are given (YtfadijofnaepnaaDoorTie.lean); close each card by the builder's one call (the guide's Derived/Test/ToyasCard.lean, 'card_holds'). Laid BY PROGRAM, IN A SANDBOX (cutbox-door.mjs). By AI agents, Wed Nov 11 2026. No macro, syntax, notation, axiom, sorry.
-/
import Derived.Test.YtfadijofnaepnaaDoorRows
import GoSem.ClaimSeven
namespace Go.Proofs.YtfadijofnaepnaaDoor
namespace Rows

/-- THE TIED CARD OF 'mizzenlaw04.ScalarWords'. -/
def scalarWordsCard : Claim7 := { stood := { row := scalarWordsRow, standIns := [], harness := (true, "1dd7a78e2d9ca9c3b5c095987d9c9326dffc98b6a0a0b5dd71faef0e9cefcf99"), looks := true }, kinds := [], alts := [], laidByText := true, laidKinds := [.data, .data, .data, .data, .sentinel, .sentinel, .pinned], laidTests := true, laidLooks := .later }
def ScalarWordsCardSaid : Prop := Claim7.holds Tryd.pinned (.plain (OpenSpec.ofChange scalarWordsSpec)) scalarWordsCard

/-- THE TIED CARD OF 'mizzenlaw04.ScalarQuotes'. -/
def scalarQuotesCard : Claim7 := { stood := { row := scalarQuotesRow, standIns := [], harness := (true, "1dd7a78e2d9ca9c3b5c095987d9c9326dffc98b6a0a0b5dd71faef0e9cefcf99"), looks := true }, kinds := [], alts := [], laidByText := true, laidKinds := [.data, .data, .data, .data, .sentinel, .sentinel, .pinned], laidTests := true, laidLooks := .later }
def ScalarQuotesCardSaid : Prop := Claim7.holds Tryd.pinned (.plain (OpenSpec.ofChange scalarQuotesSpec)) scalarQuotesCard

/-- THE TIED CARD OF 'mizzenlaw04.ScalarBack'. -/
def scalarBackCard : Claim7 := { stood := { row := scalarBackRow, standIns := [], harness := (true, "1dd7a78e2d9ca9c3b5c095987d9c9326dffc98b6a0a0b5dd71faef0e9cefcf99"), looks := true }, kinds := [], alts := [], laidByText := true, laidKinds := [.data, .data, .data, .data, .sentinel, .sentinel, .pinned], laidTests := true, laidLooks := .later }
def ScalarBackCardSaid : Prop := Claim7.holds Tryd.pinned (.plain (OpenSpec.ofChange scalarBackSpec)) scalarBackCard

/-- THE TIED CARD OF 'mizzenlaw04.ScalarNumbers'. -/
def scalarNumbersCard : Claim7 := { stood := { row := scalarNumbersRow, standIns := [], harness := (true, "1dd7a78e2d9ca9c3b5c095987d9c9326dffc98b6a0a0b5dd71faef0e9cefcf99"), looks := true }, kinds := [], alts := [], laidByText := true, laidKinds := [.data, .data, .data, .data, .sentinel, .sentinel, .pinned], laidTests := true, laidLooks := .later }
def ScalarNumbersCardSaid : Prop := Claim7.holds Tryd.pinned (.plain (OpenSpec.ofChange scalarNumbersSpec)) scalarNumbersCard

/-- THE TIED CARD OF 'mizzenlaw04.ScalarBares'. -/
def scalarBaresCard : Claim7 := { stood := { row := scalarBaresRow, standIns := [], harness := (true, "1dd7a78e2d9ca9c3b5c095987d9c9326dffc98b6a0a0b5dd71faef0e9cefcf99"), looks := true }, kinds := [], alts := [], laidByText := true, laidKinds := [.data, .data, .data, .data, .sentinel, .sentinel, .pinned], laidTests := true, laidLooks := .later }
def ScalarBaresCardSaid : Prop := Claim7.holds Tryd.pinned (.plain (OpenSpec.ofChange scalarBaresSpec)) scalarBaresCard

/-- THE SECOND FORM's CARD OF 'mizzenlaw04.ScalarWords'. -/
def scalarWordsUptoCard : Claim7 := { stood := { row := scalarWordsUptoRow, standIns := [], harness := (true, "1dd7a78e2d9ca9c3b5c095987d9c9326dffc98b6a0a0b5dd71faef0e9cefcf99"), looks := true }, kinds := [], alts := [], laidByText := true, laidKinds := [.data, .data, .data, .data, .sentinel, .sentinel, .pinned], laidTests := true, laidLooks := .later }
def ScalarWordsUptoCardSaid : Prop := Claim7.holds Tryd.pinned (.plain (OpenSpec.upto scalarWordsSpec)) scalarWordsUptoCard

/-- THE SECOND FORM's CARD OF 'mizzenlaw04.ScalarQuotes'. -/
def scalarQuotesUptoCard : Claim7 := { stood := { row := scalarQuotesUptoRow, standIns := [], harness := (true, "1dd7a78e2d9ca9c3b5c095987d9c9326dffc98b6a0a0b5dd71faef0e9cefcf99"), looks := true }, kinds := [], alts := [], laidByText := true, laidKinds := [.data, .data, .data, .data, .sentinel, .sentinel, .pinned], laidTests := true, laidLooks := .later }
def ScalarQuotesUptoCardSaid : Prop := Claim7.holds Tryd.pinned (.plain (OpenSpec.upto scalarQuotesSpec)) scalarQuotesUptoCard

/-- THE SECOND FORM's CARD OF 'mizzenlaw04.ScalarBack'. -/
def scalarBackUptoCard : Claim7 := { stood := { row := scalarBackUptoRow, standIns := [], harness := (true, "1dd7a78e2d9ca9c3b5c095987d9c9326dffc98b6a0a0b5dd71faef0e9cefcf99"), looks := true }, kinds := [], alts := [], laidByText := true, laidKinds := [.data, .data, .data, .data, .sentinel, .sentinel, .pinned], laidTests := true, laidLooks := .later }
def ScalarBackUptoCardSaid : Prop := Claim7.holds Tryd.pinned (.plain (OpenSpec.upto scalarBackSpec)) scalarBackUptoCard

/-- THE SECOND FORM's CARD OF 'mizzenlaw04.ScalarNumbers'. -/
def scalarNumbersUptoCard : Claim7 := { stood := { row := scalarNumbersUptoRow, standIns := [], harness := (true, "1dd7a78e2d9ca9c3b5c095987d9c9326dffc98b6a0a0b5dd71faef0e9cefcf99"), looks := true }, kinds := [], alts := [], laidByText := true, laidKinds := [.data, .data, .data, .data, .sentinel, .sentinel, .pinned], laidTests := true, laidLooks := .later }
def ScalarNumbersUptoCardSaid : Prop := Claim7.holds Tryd.pinned (.plain (OpenSpec.upto scalarNumbersSpec)) scalarNumbersUptoCard

/-- THE SECOND FORM's CARD OF 'mizzenlaw04.ScalarBares'. -/
def scalarBaresUptoCard : Claim7 := { stood := { row := scalarBaresUptoRow, standIns := [], harness := (true, "1dd7a78e2d9ca9c3b5c095987d9c9326dffc98b6a0a0b5dd71faef0e9cefcf99"), looks := true }, kinds := [], alts := [], laidByText := true, laidKinds := [.data, .data, .data, .data, .sentinel, .sentinel, .pinned], laidTests := true, laidLooks := .later }
def ScalarBaresUptoCardSaid : Prop := Claim7.holds Tryd.pinned (.plain (OpenSpec.upto scalarBaresSpec)) scalarBaresUptoCard
end Rows
end Go.Proofs.YtfadijofnaepnaaDoor
