/-
  DERIVED. GIVEN WITH THE SEED: THE CARDS: each row of YtbmlmcoepmbelaaDoorRows.lean that lists a variable, with what it lists TIED to the program's text (the seventh form; the later family's looks); each row that meets fmt, with fmt's text TOLD by the authors' own Lean function (tested against real Go, not proved from fmt's source: count such statements apart). THE CARD IS WHAT COUNTS. Prove the row's statement (the work); the ties are given (YtbmlmcoepmbelaaDoorTie.lean); close each card by the builder's one call (the guide's Derived/Test/ToyasCard.lean, 'card_holds'). Laid BY PROGRAM, IN A SANDBOX (cutbox-door.mjs). By AI agents, Wed Nov 11 2026. No macro, syntax, notation, axiom, sorry.
-/
import Derived.Test.YtbmlmcoepmbelaaDoorRows
import GoSem.ClaimSeven
namespace Go.Proofs.YtbmlmcoepmbelaaDoor
namespace Rows

/-- THE TIED CARD OF 'mizzenlaw12.ObjectReads'. -/
def objectReadsCard : Claim7 := { stood := { row := objectReadsRow, standIns := [], harness := (true, "6e87ab9fb053786a90abbc2c2714c854e7725b28f3a2be7e10e09fc6bf5cbf15"), looks := false }, kinds := [], alts := [], laidByText := true, laidKinds := [.data, .data, .pinned], laidTests := true, laidLooks := .later }
def ObjectReadsCardSaid : Prop := Claim7.holds Tryd.pinned (.plain (OpenSpec.ofChange objectReadsSpec)) objectReadsCard

/-- THE TIED CARD OF 'mizzenlaw12.ObjectKeys'. -/
def objectKeysCard : Claim7 := { stood := { row := objectKeysRow, standIns := [], harness := (true, "6e87ab9fb053786a90abbc2c2714c854e7725b28f3a2be7e10e09fc6bf5cbf15"), looks := false }, kinds := [], alts := [], laidByText := true, laidKinds := [.data], laidTests := true, laidLooks := .later }
def ObjectKeysCardSaid : Prop := Claim7.holds Tryd.pinned (.plain (OpenSpec.ofChange objectKeysSpec)) objectKeysCard

/-- THE TIED CARD OF 'mizzenlaw12.ObjectFinds'. -/
def objectFindsCard : Claim7 := { stood := { row := objectFindsRow, standIns := [], harness := (true, "6e87ab9fb053786a90abbc2c2714c854e7725b28f3a2be7e10e09fc6bf5cbf15"), looks := false }, kinds := [], alts := [], laidByText := true, laidKinds := [.data], laidTests := true, laidLooks := .later }
def ObjectFindsCardSaid : Prop := Claim7.holds Tryd.pinned (.plain (OpenSpec.ofChange objectFindsSpec)) objectFindsCard

/-- THE SECOND FORM's CARD OF 'mizzenlaw12.ObjectReads'. -/
def objectReadsUptoCard : Claim7 := { stood := { row := objectReadsUptoRow, standIns := [], harness := (true, "6e87ab9fb053786a90abbc2c2714c854e7725b28f3a2be7e10e09fc6bf5cbf15"), looks := false }, kinds := [], alts := [], laidByText := true, laidKinds := [.data, .data, .pinned], laidTests := true, laidLooks := .later }
def ObjectReadsUptoCardSaid : Prop := Claim7.holds Tryd.pinned (.plain (OpenSpec.upto objectReadsSpec)) objectReadsUptoCard

/-- THE SECOND FORM's CARD OF 'mizzenlaw12.ObjectKeys'. -/
def objectKeysUptoCard : Claim7 := { stood := { row := objectKeysUptoRow, standIns := [], harness := (true, "6e87ab9fb053786a90abbc2c2714c854e7725b28f3a2be7e10e09fc6bf5cbf15"), looks := false }, kinds := [], alts := [], laidByText := true, laidKinds := [.data], laidTests := true, laidLooks := .later }
def ObjectKeysUptoCardSaid : Prop := Claim7.holds Tryd.pinned (.plain (OpenSpec.upto objectKeysSpec)) objectKeysUptoCard

/-- THE SECOND FORM's CARD OF 'mizzenlaw12.ObjectFinds'. -/
def objectFindsUptoCard : Claim7 := { stood := { row := objectFindsUptoRow, standIns := [], harness := (true, "6e87ab9fb053786a90abbc2c2714c854e7725b28f3a2be7e10e09fc6bf5cbf15"), looks := false }, kinds := [], alts := [], laidByText := true, laidKinds := [.data], laidTests := true, laidLooks := .later }
def ObjectFindsUptoCardSaid : Prop := Claim7.holds Tryd.pinned (.plain (OpenSpec.upto objectFindsSpec)) objectFindsUptoCard
end Rows
end Go.Proofs.YtbmlmcoepmbelaaDoor
