/-
  DERIVED. GIVEN WITH THE SEED: THE CARDS: each row of YtclkinokmpcigaaGreatDoorRows.lean that lists a variable, with what it lists TIED to the program's text (the seventh form; the later family's looks); each row that meets fmt, with fmt's text TOLD by the authors' own Lean function (tested against real Go, not proved from fmt's source: count such statements apart). THE CARD IS WHAT COUNTS. Prove the row's statement (the work); the ties are given (YtclkinokmpcigaaGreatDoorTie.lean); close each card by the builder's one call (the guide's Derived/Test/ToyasCard.lean, 'card_holds'). Laid BY PROGRAM, IN A SANDBOX (cutbox-door.mjs). By AI agents, Wed Nov 11 2026. No macro, syntax, notation, axiom, sorry.
-/
import Derived.Test.YtclkinokmpcigaaGreatDoorRows
import GoSem.ClaimSeven
namespace Go.Proofs.YtclkinokmpcigaaGreatDoor
namespace Rows

/-- THE TIED CARD OF 'mizzenlaw08.FuncsTexts'. -/
def funcsTextsCard : Claim7 := { stood := { row := funcsTextsRow, standIns := [], harness := (true, "95abc6962474e14827f02c98770c9471b44d537293a2466a87e0daf3cac65a7c"), looks := true }, kinds := [], alts := [], laidByText := true, laidKinds := [.data, .data, .data, .data, .sentinel, .sentinel, .data, .pinned], laidTests := true, laidLooks := .later }
def FuncsTextsCardSaid : Prop := Claim7.holds Tryz.pinned (.plain (OpenSpec.ofChange funcsTextsSpec)) funcsTextsCard

/-- THE SECOND FORM's CARD OF 'mizzenlaw08.FuncsTexts'. -/
def funcsTextsUptoCard : Claim7 := { stood := { row := funcsTextsUptoRow, standIns := [], harness := (true, "95abc6962474e14827f02c98770c9471b44d537293a2466a87e0daf3cac65a7c"), looks := true }, kinds := [], alts := [], laidByText := true, laidKinds := [.data, .data, .data, .data, .sentinel, .sentinel, .data, .pinned], laidTests := true, laidLooks := .later }
def FuncsTextsUptoCardSaid : Prop := Claim7.holds Tryz.pinned (.plain (OpenSpec.upto funcsTextsSpec)) funcsTextsUptoCard
end Rows
end Go.Proofs.YtclkinokmpcigaaGreatDoor
