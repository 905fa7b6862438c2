/-
  DERIVED. GIVEN WITH THE SEED: THE CARDS: each row of YthjdeckdklhphaaGreatDoorRows.lean that lists a variable, with what it lists TIED to the program's text (the seventh form; the later family's looks); each row that meets fmt, with fmt's text TOLD by the authors' own Lean function (tested against real Go, not proved from fmt's source: count such statements apart). THE CARD IS WHAT COUNTS. Prove the row's statement (the work); the ties are given (YthjdeckdklhphaaGreatDoorTie.lean); close each card by the builder's one call (the guide's Derived/Test/ToyasCard.lean, 'card_holds'). Laid BY PROGRAM, IN A SANDBOX (cutbox-door.mjs). By AI agents, Wed Nov 11 2026. No macro, syntax, notation, axiom, sorry.
-/
import Derived.Test.YthjdeckdklhphaaGreatDoorRows
import GoSem.ClaimSeven
namespace Go.Proofs.YthjdeckdklhphaaGreatDoor
namespace Rows

/-- THE TIED CARD OF 'mizzenlaw08.FuncsLists'. -/
def funcsListsCard : Claim7 := { stood := { row := funcsListsRow, standIns := [], harness := (true, "2c4eab52676c3fe957a6fd2490800f74907848e68392b2392c165311ef038a19"), looks := true }, kinds := [], alts := [], laidByText := true, laidKinds := [.data, .data, .data, .data, .sentinel, .sentinel, .data, .pinned], laidTests := true, laidLooks := .later }
def FuncsListsCardSaid : Prop := Claim7.holds Tryz.pinned (.plain (OpenSpec.ofChange funcsListsSpec)) funcsListsCard

/-- THE SECOND FORM's CARD OF 'mizzenlaw08.FuncsLists'. -/
def funcsListsUptoCard : Claim7 := { stood := { row := funcsListsUptoRow, standIns := [], harness := (true, "2c4eab52676c3fe957a6fd2490800f74907848e68392b2392c165311ef038a19"), looks := true }, kinds := [], alts := [], laidByText := true, laidKinds := [.data, .data, .data, .data, .sentinel, .sentinel, .data, .pinned], laidTests := true, laidLooks := .later }
def FuncsListsUptoCardSaid : Prop := Claim7.holds Tryz.pinned (.plain (OpenSpec.upto funcsListsSpec)) funcsListsUptoCard
end Rows
end Go.Proofs.YthjdeckdklhphaaGreatDoor
