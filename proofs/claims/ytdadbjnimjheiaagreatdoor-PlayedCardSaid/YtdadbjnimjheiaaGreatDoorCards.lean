/-
  DERIVED. GIVEN WITH THE SEED: THE CARDS: each row of YtdadbjnimjheiaaGreatDoorRows.lean that lists a variable, with what it lists TIED to the program's text (the seventh form; the later family's looks); each row that meets fmt, with fmt's text TOLD by the authors' own Lean function (tested against real Go, not proved from fmt's source: count such statements apart). THE CARD IS WHAT COUNTS. Prove the row's statement (the work); the ties are given (YtdadbjnimjheiaaGreatDoorTie.lean); close each card by the builder's one call (the guide's Derived/Test/ToyasCard.lean, 'card_holds'). Laid BY PROGRAM, IN A SANDBOX (cutbox-door.mjs). By AI agents, Wed Nov 11 2026. No macro, syntax, notation, axiom, sorry.
-/
import Derived.Test.YtdadbjnimjheiaaGreatDoorRows
import GoSem.ClaimSeven
namespace Go.Proofs.YtdadbjnimjheiaaGreatDoor
namespace Rows

/-- THE TIED CARD OF 'unfoldlaw.Numbers'. -/
def numbersCard : Claim7 := { stood := { row := numbersRow, standIns := [], harness := (true, "da94307291553083524fb907e88ce4e5699985a30f65d9ea576ad6dfa9bf18e7"), looks := false }, kinds := [], alts := [], laidByText := true, laidKinds := [.data, .data, .data, .data], laidTests := true, laidLooks := .later }
def NumbersCardSaid : Prop := Claim7.holds Tryz.pinned (.plain (OpenSpec.ofChange numbersSpec)) numbersCard

/-- THE TIED CARD OF 'unfoldlaw.Tables'. -/
def tablesCard : Claim7 := { stood := { row := tablesRow, standIns := [], harness := (true, "da94307291553083524fb907e88ce4e5699985a30f65d9ea576ad6dfa9bf18e7"), looks := false }, kinds := [], alts := [], laidByText := true, laidKinds := [.data, .data, .data, .data], laidTests := true, laidLooks := .later }
def TablesCardSaid : Prop := Claim7.holds Tryz.pinned (.plain (OpenSpec.ofChange tablesSpec)) tablesCard

/-- THE TIED CARD OF 'unfoldlaw.Checks'. -/
def checksCard : Claim7 := { stood := { row := checksRow, standIns := [], harness := (true, "da94307291553083524fb907e88ce4e5699985a30f65d9ea576ad6dfa9bf18e7"), looks := false }, kinds := [], alts := [], laidByText := true, laidKinds := [.data, .data, .data, .data], laidTests := true, laidLooks := .later }
def ChecksCardSaid : Prop := Claim7.holds Tryz.pinned (.plain (OpenSpec.ofChange checksSpec)) checksCard

/-- THE TIED CARD OF 'unfoldlaw.Played'. -/
def playedCard : Claim7 := { stood := { row := playedRow, standIns := [], harness := (true, "da94307291553083524fb907e88ce4e5699985a30f65d9ea576ad6dfa9bf18e7"), looks := false }, kinds := [], alts := [], laidByText := true, laidKinds := [.data, .data, .data, .data], laidTests := true, laidLooks := .later }
def PlayedCardSaid : Prop := Claim7.holds Tryz.pinned (.plain (OpenSpec.ofChange playedSpec)) playedCard

/-- THE TIED CARD OF 'unfoldlaw.Images'. -/
def imagesCard : Claim7 := { stood := { row := imagesRow, standIns := [], harness := (true, "da94307291553083524fb907e88ce4e5699985a30f65d9ea576ad6dfa9bf18e7"), looks := false }, kinds := [], alts := [], laidByText := true, laidKinds := [.data, .data, .data, .data], laidTests := true, laidLooks := .later }
def ImagesCardSaid : Prop := Claim7.holds Tryz.pinned (.plain (OpenSpec.ofChange imagesSpec)) imagesCard

/-- THE TIED CARD OF 'unfoldlaw.Symbols'. -/
def symbolsCard : Claim7 := { stood := { row := symbolsRow, standIns := [], harness := (true, "da94307291553083524fb907e88ce4e5699985a30f65d9ea576ad6dfa9bf18e7"), looks := false }, kinds := [], alts := [], laidByText := true, laidKinds := [.data, .data, .data, .data], laidTests := true, laidLooks := .later }
def SymbolsCardSaid : Prop := Claim7.holds Tryz.pinned (.plain (OpenSpec.ofChange symbolsSpec)) symbolsCard

/-- THE SECOND FORM's CARD OF 'unfoldlaw.Numbers'. -/
def numbersUptoCard : Claim7 := { stood := { row := numbersUptoRow, standIns := [], harness := (true, "da94307291553083524fb907e88ce4e5699985a30f65d9ea576ad6dfa9bf18e7"), looks := false }, kinds := [], alts := [], laidByText := true, laidKinds := [.data, .data, .data, .data], laidTests := true, laidLooks := .later }
def NumbersUptoCardSaid : Prop := Claim7.holds Tryz.pinned (.plain (OpenSpec.upto numbersSpec)) numbersUptoCard

/-- THE SECOND FORM's CARD OF 'unfoldlaw.Tables'. -/
def tablesUptoCard : Claim7 := { stood := { row := tablesUptoRow, standIns := [], harness := (true, "da94307291553083524fb907e88ce4e5699985a30f65d9ea576ad6dfa9bf18e7"), looks := false }, kinds := [], alts := [], laidByText := true, laidKinds := [.data, .data, .data, .data], laidTests := true, laidLooks := .later }
def TablesUptoCardSaid : Prop := Claim7.holds Tryz.pinned (.plain (OpenSpec.upto tablesSpec)) tablesUptoCard

/-- THE SECOND FORM's CARD OF 'unfoldlaw.Checks'. -/
def checksUptoCard : Claim7 := { stood := { row := checksUptoRow, standIns := [], harness := (true, "da94307291553083524fb907e88ce4e5699985a30f65d9ea576ad6dfa9bf18e7"), looks := false }, kinds := [], alts := [], laidByText := true, laidKinds := [.data, .data, .data, .data], laidTests := true, laidLooks := .later }
def ChecksUptoCardSaid : Prop := Claim7.holds Tryz.pinned (.plain (OpenSpec.upto checksSpec)) checksUptoCard

/-- THE SECOND FORM's CARD OF 'unfoldlaw.Played'. -/
def playedUptoCard : Claim7 := { stood := { row := playedUptoRow, standIns := [], harness := (true, "da94307291553083524fb907e88ce4e5699985a30f65d9ea576ad6dfa9bf18e7"), looks := false }, kinds := [], alts := [], laidByText := true, laidKinds := [.data, .data, .data, .data], laidTests := true, laidLooks := .later }
def PlayedUptoCardSaid : Prop := Claim7.holds Tryz.pinned (.plain (OpenSpec.upto playedSpec)) playedUptoCard

/-- THE SECOND FORM's CARD OF 'unfoldlaw.Images'. -/
def imagesUptoCard : Claim7 := { stood := { row := imagesUptoRow, standIns := [], harness := (true, "da94307291553083524fb907e88ce4e5699985a30f65d9ea576ad6dfa9bf18e7"), looks := false }, kinds := [], alts := [], laidByText := true, laidKinds := [.data, .data, .data, .data], laidTests := true, laidLooks := .later }
def ImagesUptoCardSaid : Prop := Claim7.holds Tryz.pinned (.plain (OpenSpec.upto imagesSpec)) imagesUptoCard

/-- THE SECOND FORM's CARD OF 'unfoldlaw.Symbols'. -/
def symbolsUptoCard : Claim7 := { stood := { row := symbolsUptoRow, standIns := [], harness := (true, "da94307291553083524fb907e88ce4e5699985a30f65d9ea576ad6dfa9bf18e7"), looks := false }, kinds := [], alts := [], laidByText := true, laidKinds := [.data, .data, .data, .data], laidTests := true, laidLooks := .later }
def SymbolsUptoCardSaid : Prop := Claim7.holds Tryz.pinned (.plain (OpenSpec.upto symbolsSpec)) symbolsUptoCard
end Rows
end Go.Proofs.YtdadbjnimjheiaaGreatDoor
