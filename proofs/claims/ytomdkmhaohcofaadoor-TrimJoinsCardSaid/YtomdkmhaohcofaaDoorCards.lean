/-
  DERIVED. GIVEN WITH THE SEED: THE CARDS: each row of YtomdkmhaohcofaaDoorRows.lean that lists a variable, with what it lists TIED to the program's text (the seventh form; the later family's looks); each row that meets fmt, with fmt's text TOLD by the authors' own Lean function (tested against real Go, not proved from fmt's source: count such statements apart). THE CARD IS WHAT COUNTS. Prove the row's statement (the work); the ties are given (YtomdkmhaohcofaaDoorTie.lean); close each card by the builder's one call (the guide's Derived/Test/ToyasCard.lean, 'card_holds'). Laid BY PROGRAM, IN A SANDBOX (cutbox-door.mjs). By AI agents, Wed Nov 11 2026. No macro, syntax, notation, axiom, sorry.
-/
import Derived.Test.YtomdkmhaohcofaaDoorRows
import GoSem.ClaimSeven
namespace Go.Proofs.YtomdkmhaohcofaaDoor
namespace Rows

/-- THE TIED CARD OF 'mizzenlaw06.TrimPlain'. -/
def trimPlainCard : Claim7 := { stood := { row := trimPlainRow, standIns := [], harness := (true, "142da4850804bfc44b075445cad3421594605b467a030b60689ca5957fc85848"), looks := false }, kinds := [], alts := [], laidByText := true, laidKinds := [.data, .pinned], laidTests := true, laidLooks := .later }
def TrimPlainCardSaid : Prop := Claim7.holds Tryd.pinned (.plain (OpenSpec.ofChange trimPlainSpec)) trimPlainCard

/-- THE TIED CARD OF 'mizzenlaw06.TrimTrims'. -/
def trimTrimsCard : Claim7 := { stood := { row := trimTrimsRow, standIns := [], harness := (true, "142da4850804bfc44b075445cad3421594605b467a030b60689ca5957fc85848"), looks := false }, kinds := [], alts := [], laidByText := true, laidKinds := [.data, .pinned], laidTests := true, laidLooks := .later }
def TrimTrimsCardSaid : Prop := Claim7.holds Tryd.pinned (.plain (OpenSpec.ofChange trimTrimsSpec)) trimTrimsCard

/-- THE TIED CARD OF 'mizzenlaw06.TrimJoins'. -/
def trimJoinsCard : Claim7 := { stood := { row := trimJoinsRow, standIns := [], harness := (true, "142da4850804bfc44b075445cad3421594605b467a030b60689ca5957fc85848"), looks := false }, kinds := [], alts := [], laidByText := true, laidKinds := [.data, .pinned], laidTests := true, laidLooks := .later }
def TrimJoinsCardSaid : Prop := Claim7.holds Tryd.pinned (.plain (OpenSpec.ofChange trimJoinsSpec)) trimJoinsCard

/-- THE TIED CARD OF 'mizzenlaw06.TrimQuotes'. -/
def trimQuotesCard : Claim7 := { stood := { row := trimQuotesRow, standIns := [], harness := (true, "142da4850804bfc44b075445cad3421594605b467a030b60689ca5957fc85848"), looks := false }, kinds := [], alts := [], laidByText := true, laidKinds := [.data, .pinned], laidTests := true, laidLooks := .later }
def TrimQuotesCardSaid : Prop := Claim7.holds Tryd.pinned (.plain (OpenSpec.ofChange trimQuotesSpec)) trimQuotesCard

/-- THE TIED CARD OF 'mizzenlaw06.TrimEnds'. -/
def trimEndsCard : Claim7 := { stood := { row := trimEndsRow, standIns := [], harness := (true, "142da4850804bfc44b075445cad3421594605b467a030b60689ca5957fc85848"), looks := false }, kinds := [], alts := [], laidByText := true, laidKinds := [.data, .pinned], laidTests := true, laidLooks := .later }
def TrimEndsCardSaid : Prop := Claim7.holds Tryd.pinned (.plain (OpenSpec.ofChange trimEndsSpec)) trimEndsCard

/-- THE SECOND FORM's CARD OF 'mizzenlaw06.TrimPlain'. -/
def trimPlainUptoCard : Claim7 := { stood := { row := trimPlainUptoRow, standIns := [], harness := (true, "142da4850804bfc44b075445cad3421594605b467a030b60689ca5957fc85848"), looks := false }, kinds := [], alts := [], laidByText := true, laidKinds := [.data, .pinned], laidTests := true, laidLooks := .later }
def TrimPlainUptoCardSaid : Prop := Claim7.holds Tryd.pinned (.plain (OpenSpec.upto trimPlainSpec)) trimPlainUptoCard

/-- THE SECOND FORM's CARD OF 'mizzenlaw06.TrimTrims'. -/
def trimTrimsUptoCard : Claim7 := { stood := { row := trimTrimsUptoRow, standIns := [], harness := (true, "142da4850804bfc44b075445cad3421594605b467a030b60689ca5957fc85848"), looks := false }, kinds := [], alts := [], laidByText := true, laidKinds := [.data, .pinned], laidTests := true, laidLooks := .later }
def TrimTrimsUptoCardSaid : Prop := Claim7.holds Tryd.pinned (.plain (OpenSpec.upto trimTrimsSpec)) trimTrimsUptoCard

/-- THE SECOND FORM's CARD OF 'mizzenlaw06.TrimJoins'. -/
def trimJoinsUptoCard : Claim7 := { stood := { row := trimJoinsUptoRow, standIns := [], harness := (true, "142da4850804bfc44b075445cad3421594605b467a030b60689ca5957fc85848"), looks := false }, kinds := [], alts := [], laidByText := true, laidKinds := [.data, .pinned], laidTests := true, laidLooks := .later }
def TrimJoinsUptoCardSaid : Prop := Claim7.holds Tryd.pinned (.plain (OpenSpec.upto trimJoinsSpec)) trimJoinsUptoCard

/-- THE SECOND FORM's CARD OF 'mizzenlaw06.TrimQuotes'. -/
def trimQuotesUptoCard : Claim7 := { stood := { row := trimQuotesUptoRow, standIns := [], harness := (true, "142da4850804bfc44b075445cad3421594605b467a030b60689ca5957fc85848"), looks := false }, kinds := [], alts := [], laidByText := true, laidKinds := [.data, .pinned], laidTests := true, laidLooks := .later }
def TrimQuotesUptoCardSaid : Prop := Claim7.holds Tryd.pinned (.plain (OpenSpec.upto trimQuotesSpec)) trimQuotesUptoCard

/-- THE SECOND FORM's CARD OF 'mizzenlaw06.TrimEnds'. -/
def trimEndsUptoCard : Claim7 := { stood := { row := trimEndsUptoRow, standIns := [], harness := (true, "142da4850804bfc44b075445cad3421594605b467a030b60689ca5957fc85848"), looks := false }, kinds := [], alts := [], laidByText := true, laidKinds := [.data, .pinned], laidTests := true, laidLooks := .later }
def TrimEndsUptoCardSaid : Prop := Claim7.holds Tryd.pinned (.plain (OpenSpec.upto trimEndsSpec)) trimEndsUptoCard
end Rows
end Go.Proofs.YtomdkmhaohcofaaDoor
