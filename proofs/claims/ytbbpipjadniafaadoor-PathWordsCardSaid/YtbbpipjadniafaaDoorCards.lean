/-
  DERIVED. GIVEN WITH THE SEED: THE CARDS: each row of YtbbpipjadniafaaDoorRows.lean that lists a variable, with what it lists TIED to the program's text (the seventh form; the later family's looks); each row that meets fmt, with fmt's text TOLD by the authors' own Lean function (tested against real Go, not proved from fmt's source: count such statements apart). THE CARD IS WHAT COUNTS. Prove the row's statement (the work); the ties are given (YtbbpipjadniafaaDoorTie.lean); close each card by the builder's one call (the guide's Derived/Test/ToyasCard.lean, 'card_holds'). Laid BY PROGRAM, IN A SANDBOX (cutbox-door.mjs). By AI agents, Wed Nov 11 2026. No macro, syntax, notation, axiom, sorry.
-/
import Derived.Test.YtbbpipjadniafaaDoorRows
import GoSem.ClaimSeven
namespace Go.Proofs.YtbbpipjadniafaaDoor
namespace Rows

/-- THE TIED CARD OF 'mizzenlaw02.PathWords'. -/
def pathWordsCard : Claim7 := { stood := { row := pathWordsRow, standIns := [], harness := (true, "838d8ceb92b938155f3a2f7d01e2b84683a6f58b2b0f1b8fafbd13ea3a8671d5"), looks := false }, kinds := [], alts := [], laidByText := true, laidKinds := [.data, .pinned], laidTests := true, laidLooks := .later }
def PathWordsCardSaid : Prop := Claim7.holds Tryd.pinned (.plain (OpenSpec.ofChange pathWordsSpec)) pathWordsCard

/-- THE SECOND FORM's CARD OF 'mizzenlaw02.PathWords'. -/
def pathWordsUptoCard : Claim7 := { stood := { row := pathWordsUptoRow, standIns := [], harness := (true, "838d8ceb92b938155f3a2f7d01e2b84683a6f58b2b0f1b8fafbd13ea3a8671d5"), looks := false }, kinds := [], alts := [], laidByText := true, laidKinds := [.data, .pinned], laidTests := true, laidLooks := .later }
def PathWordsUptoCardSaid : Prop := Claim7.holds Tryd.pinned (.plain (OpenSpec.upto pathWordsSpec)) pathWordsUptoCard
end Rows
end Go.Proofs.YtbbpipjadniafaaDoor
