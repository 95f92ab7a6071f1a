/-
  DERIVED. GIVEN WITH THE SEED: THE CARDS: each row of YtooinlilplecpaaGreatDoorRows.lean that lists a variable, with what it lists TIED to the program's text (the seventh form; the later family's looks); each row that meets fmt, with fmt's text TOLD by the authors' own Lean function (tested against real Go, not proved from fmt's source: count such statements apart). THE CARD IS WHAT COUNTS. Prove the row's statement (the work); the ties are given (YtooinlilplecpaaGreatDoorTie.lean); close each card by the builder's one call (the guide's Derived/Test/ToyasCard.lean, 'card_holds'). Laid BY PROGRAM, IN A SANDBOX (cutbox-door.mjs). By AI agents, Wed Nov 11 2026. No macro, syntax, notation, axiom, sorry.
-/
import Derived.Test.YtooinlilplecpaaGreatDoorRows
import GoSem.ClaimSeven
namespace Go.Proofs.YtooinlilplecpaaGreatDoor
namespace Rows

/-- THE TIED CARD OF 'unfoldlaw.Numbers'. -/
def numbersCard : Claim7 := { stood := { row := numbersRow, standIns := [], harness := (true, "38219e3072f75166e78366932ebb5c5c14b47fdf9585d3311c7f59e73e536ab1"), looks := false }, kinds := [], alts := [], laidByText := true, laidKinds := [.data, .data, .data, .data], laidTests := true, laidLooks := .later }
def NumbersCardSaid : Prop := Claim7.holds Tryz.pinned (.plain (OpenSpec.ofChange numbersSpec)) numbersCard

/-- THE TIED CARD OF 'unfoldlaw.Tables'. -/
def tablesCard : Claim7 := { stood := { row := tablesRow, standIns := [], harness := (true, "38219e3072f75166e78366932ebb5c5c14b47fdf9585d3311c7f59e73e536ab1"), looks := false }, kinds := [], alts := [], laidByText := true, laidKinds := [.data, .data, .data, .data], laidTests := true, laidLooks := .later }
def TablesCardSaid : Prop := Claim7.holds Tryz.pinned (.plain (OpenSpec.ofChange tablesSpec)) tablesCard

/-- THE TIED CARD OF 'unfoldlaw.Checks'. -/
def checksCard : Claim7 := { stood := { row := checksRow, standIns := [], harness := (true, "38219e3072f75166e78366932ebb5c5c14b47fdf9585d3311c7f59e73e536ab1"), looks := false }, kinds := [], alts := [], laidByText := true, laidKinds := [.data, .data, .data, .data], laidTests := true, laidLooks := .later }
def ChecksCardSaid : Prop := Claim7.holds Tryz.pinned (.plain (OpenSpec.ofChange checksSpec)) checksCard

/-- THE TIED CARD OF 'unfoldlaw.Played'. -/
def playedCard : Claim7 := { stood := { row := playedRow, standIns := [], harness := (true, "38219e3072f75166e78366932ebb5c5c14b47fdf9585d3311c7f59e73e536ab1"), looks := false }, kinds := [], alts := [], laidByText := true, laidKinds := [.data, .data, .data, .data], laidTests := true, laidLooks := .later }
def PlayedCardSaid : Prop := Claim7.holds Tryz.pinned (.plain (OpenSpec.ofChange playedSpec)) playedCard

/-- THE TIED CARD OF 'unfoldlaw.Images'. -/
def imagesCard : Claim7 := { stood := { row := imagesRow, standIns := [], harness := (true, "38219e3072f75166e78366932ebb5c5c14b47fdf9585d3311c7f59e73e536ab1"), looks := false }, kinds := [], alts := [], laidByText := true, laidKinds := [.data, .data, .data, .data], laidTests := true, laidLooks := .later }
def ImagesCardSaid : Prop := Claim7.holds Tryz.pinned (.plain (OpenSpec.ofChange imagesSpec)) imagesCard

/-- THE TIED CARD OF 'unfoldlaw.Symbols'. -/
def symbolsCard : Claim7 := { stood := { row := symbolsRow, standIns := [], harness := (true, "38219e3072f75166e78366932ebb5c5c14b47fdf9585d3311c7f59e73e536ab1"), looks := false }, kinds := [], alts := [], laidByText := true, laidKinds := [.data, .data, .data, .data], laidTests := true, laidLooks := .later }
def SymbolsCardSaid : Prop := Claim7.holds Tryz.pinned (.plain (OpenSpec.ofChange symbolsSpec)) symbolsCard

/-- THE TIED CARD OF 'unfoldlaw.Builds'. -/
def buildsCard : Claim7 := { stood := { row := buildsRow, standIns := [], harness := (true, "38219e3072f75166e78366932ebb5c5c14b47fdf9585d3311c7f59e73e536ab1"), looks := false }, kinds := [], alts := [], laidByText := true, laidKinds := [.data, .data, .data, .data], laidTests := true, laidLooks := .later }
def BuildsCardSaid : Prop := Claim7.holds Tryz.pinned (.plain (OpenSpec.ofChange buildsSpec)) buildsCard

/-- THE TIED CARD OF 'unfoldlaw.Machines'. -/
def machinesCard : Claim7 := { stood := { row := machinesRow, standIns := [], harness := (true, "38219e3072f75166e78366932ebb5c5c14b47fdf9585d3311c7f59e73e536ab1"), looks := false }, kinds := [], alts := [], laidByText := true, laidKinds := [.data, .data, .data, .data], laidTests := true, laidLooks := .later }
def MachinesCardSaid : Prop := Claim7.holds Tryz.pinned (.plain (OpenSpec.ofChange machinesSpec)) machinesCard

/-- THE TIED CARD OF 'unfoldlaw.Traces'. -/
def tracesCard : Claim7 := { stood := { row := tracesRow, standIns := [], harness := (true, "38219e3072f75166e78366932ebb5c5c14b47fdf9585d3311c7f59e73e536ab1"), looks := false }, kinds := [], alts := [], laidByText := true, laidKinds := [.data, .data, .data, .data], laidTests := true, laidLooks := .later }
def TracesCardSaid : Prop := Claim7.holds Tryz.pinned (.plain (OpenSpec.ofChange tracesSpec)) tracesCard

/-- THE TIED CARD OF 'unfoldlaw.All'. -/
def allCard : Claim7 := { stood := { row := allRow, standIns := [], harness := (true, "38219e3072f75166e78366932ebb5c5c14b47fdf9585d3311c7f59e73e536ab1"), looks := false }, kinds := [], alts := [], laidByText := true, laidKinds := [.data, .data, .data, .data], laidTests := true, laidLooks := .later }
def AllCardSaid : Prop := Claim7.holds Tryz.pinned (.plain (OpenSpec.ofChange allSpec)) allCard

/-- THE SECOND FORM's CARD OF 'unfoldlaw.Numbers'. -/
def numbersUptoCard : Claim7 := { stood := { row := numbersUptoRow, standIns := [], harness := (true, "38219e3072f75166e78366932ebb5c5c14b47fdf9585d3311c7f59e73e536ab1"), looks := false }, kinds := [], alts := [], laidByText := true, laidKinds := [.data, .data, .data, .data], laidTests := true, laidLooks := .later }
def NumbersUptoCardSaid : Prop := Claim7.holds Tryz.pinned (.plain (OpenSpec.upto numbersSpec)) numbersUptoCard

/-- THE SECOND FORM's CARD OF 'unfoldlaw.Tables'. -/
def tablesUptoCard : Claim7 := { stood := { row := tablesUptoRow, standIns := [], harness := (true, "38219e3072f75166e78366932ebb5c5c14b47fdf9585d3311c7f59e73e536ab1"), looks := false }, kinds := [], alts := [], laidByText := true, laidKinds := [.data, .data, .data, .data], laidTests := true, laidLooks := .later }
def TablesUptoCardSaid : Prop := Claim7.holds Tryz.pinned (.plain (OpenSpec.upto tablesSpec)) tablesUptoCard

/-- THE SECOND FORM's CARD OF 'unfoldlaw.Checks'. -/
def checksUptoCard : Claim7 := { stood := { row := checksUptoRow, standIns := [], harness := (true, "38219e3072f75166e78366932ebb5c5c14b47fdf9585d3311c7f59e73e536ab1"), looks := false }, kinds := [], alts := [], laidByText := true, laidKinds := [.data, .data, .data, .data], laidTests := true, laidLooks := .later }
def ChecksUptoCardSaid : Prop := Claim7.holds Tryz.pinned (.plain (OpenSpec.upto checksSpec)) checksUptoCard

/-- THE SECOND FORM's CARD OF 'unfoldlaw.Played'. -/
def playedUptoCard : Claim7 := { stood := { row := playedUptoRow, standIns := [], harness := (true, "38219e3072f75166e78366932ebb5c5c14b47fdf9585d3311c7f59e73e536ab1"), looks := false }, kinds := [], alts := [], laidByText := true, laidKinds := [.data, .data, .data, .data], laidTests := true, laidLooks := .later }
def PlayedUptoCardSaid : Prop := Claim7.holds Tryz.pinned (.plain (OpenSpec.upto playedSpec)) playedUptoCard

/-- THE SECOND FORM's CARD OF 'unfoldlaw.Images'. -/
def imagesUptoCard : Claim7 := { stood := { row := imagesUptoRow, standIns := [], harness := (true, "38219e3072f75166e78366932ebb5c5c14b47fdf9585d3311c7f59e73e536ab1"), looks := false }, kinds := [], alts := [], laidByText := true, laidKinds := [.data, .data, .data, .data], laidTests := true, laidLooks := .later }
def ImagesUptoCardSaid : Prop := Claim7.holds Tryz.pinned (.plain (OpenSpec.upto imagesSpec)) imagesUptoCard

/-- THE SECOND FORM's CARD OF 'unfoldlaw.Symbols'. -/
def symbolsUptoCard : Claim7 := { stood := { row := symbolsUptoRow, standIns := [], harness := (true, "38219e3072f75166e78366932ebb5c5c14b47fdf9585d3311c7f59e73e536ab1"), looks := false }, kinds := [], alts := [], laidByText := true, laidKinds := [.data, .data, .data, .data], laidTests := true, laidLooks := .later }
def SymbolsUptoCardSaid : Prop := Claim7.holds Tryz.pinned (.plain (OpenSpec.upto symbolsSpec)) symbolsUptoCard

/-- THE SECOND FORM's CARD OF 'unfoldlaw.Builds'. -/
def buildsUptoCard : Claim7 := { stood := { row := buildsUptoRow, standIns := [], harness := (true, "38219e3072f75166e78366932ebb5c5c14b47fdf9585d3311c7f59e73e536ab1"), looks := false }, kinds := [], alts := [], laidByText := true, laidKinds := [.data, .data, .data, .data], laidTests := true, laidLooks := .later }
def BuildsUptoCardSaid : Prop := Claim7.holds Tryz.pinned (.plain (OpenSpec.upto buildsSpec)) buildsUptoCard

/-- THE SECOND FORM's CARD OF 'unfoldlaw.Machines'. -/
def machinesUptoCard : Claim7 := { stood := { row := machinesUptoRow, standIns := [], harness := (true, "38219e3072f75166e78366932ebb5c5c14b47fdf9585d3311c7f59e73e536ab1"), looks := false }, kinds := [], alts := [], laidByText := true, laidKinds := [.data, .data, .data, .data], laidTests := true, laidLooks := .later }
def MachinesUptoCardSaid : Prop := Claim7.holds Tryz.pinned (.plain (OpenSpec.upto machinesSpec)) machinesUptoCard

/-- THE SECOND FORM's CARD OF 'unfoldlaw.Traces'. -/
def tracesUptoCard : Claim7 := { stood := { row := tracesUptoRow, standIns := [], harness := (true, "38219e3072f75166e78366932ebb5c5c14b47fdf9585d3311c7f59e73e536ab1"), looks := false }, kinds := [], alts := [], laidByText := true, laidKinds := [.data, .data, .data, .data], laidTests := true, laidLooks := .later }
def TracesUptoCardSaid : Prop := Claim7.holds Tryz.pinned (.plain (OpenSpec.upto tracesSpec)) tracesUptoCard

/-- THE SECOND FORM's CARD OF 'unfoldlaw.All'. -/
def allUptoCard : Claim7 := { stood := { row := allUptoRow, standIns := [], harness := (true, "38219e3072f75166e78366932ebb5c5c14b47fdf9585d3311c7f59e73e536ab1"), looks := false }, kinds := [], alts := [], laidByText := true, laidKinds := [.data, .data, .data, .data], laidTests := true, laidLooks := .later }
def AllUptoCardSaid : Prop := Claim7.holds Tryz.pinned (.plain (OpenSpec.upto allSpec)) allUptoCard
end Rows
end Go.Proofs.YtooinlilplecpaaGreatDoor
