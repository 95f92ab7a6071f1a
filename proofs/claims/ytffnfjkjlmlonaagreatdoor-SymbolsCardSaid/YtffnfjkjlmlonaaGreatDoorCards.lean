/-
  DERIVED. GIVEN WITH THE SEED: THE CARDS: each row of YtffnfjkjlmlonaaGreatDoorRows.lean that lists a variable, with what it lists TIED to the program's text (the seventh form; the later family's looks); each row that meets fmt, with fmt's text TOLD by the authors' own Lean function (tested against real Go, not proved from fmt's source: count such statements apart). THE CARD IS WHAT COUNTS. Prove the row's statement (the work); the ties are given (YtffnfjkjlmlonaaGreatDoorTie.lean); close each card by the builder's one call (the guide's Derived/Test/ToyasCard.lean, 'card_holds'). Laid BY PROGRAM, IN A SANDBOX (cutbox-door.mjs). By AI agents, Wed Nov 11 2026. No macro, syntax, notation, axiom, sorry.
-/
import Derived.Test.YtffnfjkjlmlonaaGreatDoorRows
import GoSem.ClaimSeven
namespace Go.Proofs.YtffnfjkjlmlonaaGreatDoor
namespace Rows

/-- THE TIED CARD OF 'unfoldlaw.Images'. -/
def imagesCard : Claim7 := { stood := { row := imagesRow, standIns := [], harness := (true, "698a8df25c5f384a0b1b8bacd575b0c5e8adb6d808d0db6d8a8c2fe8a86cb5ef"), looks := false }, kinds := [], alts := [], laidByText := true, laidKinds := [.data, .data, .data, .data], laidTests := true, laidLooks := .later }
def ImagesCardSaid : Prop := Claim7.holds Tryz.pinned (.plain (OpenSpec.ofChange imagesSpec)) imagesCard

/-- THE TIED CARD OF 'unfoldlaw.Symbols'. -/
def symbolsCard : Claim7 := { stood := { row := symbolsRow, standIns := [], harness := (true, "698a8df25c5f384a0b1b8bacd575b0c5e8adb6d808d0db6d8a8c2fe8a86cb5ef"), looks := false }, kinds := [], alts := [], laidByText := true, laidKinds := [.data, .data, .data, .data], laidTests := true, laidLooks := .later }
def SymbolsCardSaid : Prop := Claim7.holds Tryz.pinned (.plain (OpenSpec.ofChange symbolsSpec)) symbolsCard

/-- THE TIED CARD OF 'unfoldlaw.Builds'. -/
def buildsCard : Claim7 := { stood := { row := buildsRow, standIns := [], harness := (true, "698a8df25c5f384a0b1b8bacd575b0c5e8adb6d808d0db6d8a8c2fe8a86cb5ef"), looks := false }, kinds := [], alts := [], laidByText := true, laidKinds := [.data, .data, .data, .data], laidTests := true, laidLooks := .later }
def BuildsCardSaid : Prop := Claim7.holds Tryz.pinned (.plain (OpenSpec.ofChange buildsSpec)) buildsCard

/-- THE TIED CARD OF 'unfoldlaw.Machines'. -/
def machinesCard : Claim7 := { stood := { row := machinesRow, standIns := [], harness := (true, "698a8df25c5f384a0b1b8bacd575b0c5e8adb6d808d0db6d8a8c2fe8a86cb5ef"), looks := false }, kinds := [], alts := [], laidByText := true, laidKinds := [.data, .data, .data, .data], laidTests := true, laidLooks := .later }
def MachinesCardSaid : Prop := Claim7.holds Tryz.pinned (.plain (OpenSpec.ofChange machinesSpec)) machinesCard

/-- THE TIED CARD OF 'unfoldlaw.Traces'. -/
def tracesCard : Claim7 := { stood := { row := tracesRow, standIns := [], harness := (true, "698a8df25c5f384a0b1b8bacd575b0c5e8adb6d808d0db6d8a8c2fe8a86cb5ef"), looks := false }, kinds := [], alts := [], laidByText := true, laidKinds := [.data, .data, .data, .data], laidTests := true, laidLooks := .later }
def TracesCardSaid : Prop := Claim7.holds Tryz.pinned (.plain (OpenSpec.ofChange tracesSpec)) tracesCard

/-- THE SECOND FORM's CARD OF 'unfoldlaw.Images'. -/
def imagesUptoCard : Claim7 := { stood := { row := imagesUptoRow, standIns := [], harness := (true, "698a8df25c5f384a0b1b8bacd575b0c5e8adb6d808d0db6d8a8c2fe8a86cb5ef"), looks := false }, kinds := [], alts := [], laidByText := true, laidKinds := [.data, .data, .data, .data], laidTests := true, laidLooks := .later }
def ImagesUptoCardSaid : Prop := Claim7.holds Tryz.pinned (.plain (OpenSpec.upto imagesSpec)) imagesUptoCard

/-- THE SECOND FORM's CARD OF 'unfoldlaw.Symbols'. -/
def symbolsUptoCard : Claim7 := { stood := { row := symbolsUptoRow, standIns := [], harness := (true, "698a8df25c5f384a0b1b8bacd575b0c5e8adb6d808d0db6d8a8c2fe8a86cb5ef"), looks := false }, kinds := [], alts := [], laidByText := true, laidKinds := [.data, .data, .data, .data], laidTests := true, laidLooks := .later }
def SymbolsUptoCardSaid : Prop := Claim7.holds Tryz.pinned (.plain (OpenSpec.upto symbolsSpec)) symbolsUptoCard

/-- THE SECOND FORM's CARD OF 'unfoldlaw.Builds'. -/
def buildsUptoCard : Claim7 := { stood := { row := buildsUptoRow, standIns := [], harness := (true, "698a8df25c5f384a0b1b8bacd575b0c5e8adb6d808d0db6d8a8c2fe8a86cb5ef"), looks := false }, kinds := [], alts := [], laidByText := true, laidKinds := [.data, .data, .data, .data], laidTests := true, laidLooks := .later }
def BuildsUptoCardSaid : Prop := Claim7.holds Tryz.pinned (.plain (OpenSpec.upto buildsSpec)) buildsUptoCard

/-- THE SECOND FORM's CARD OF 'unfoldlaw.Machines'. -/
def machinesUptoCard : Claim7 := { stood := { row := machinesUptoRow, standIns := [], harness := (true, "698a8df25c5f384a0b1b8bacd575b0c5e8adb6d808d0db6d8a8c2fe8a86cb5ef"), looks := false }, kinds := [], alts := [], laidByText := true, laidKinds := [.data, .data, .data, .data], laidTests := true, laidLooks := .later }
def MachinesUptoCardSaid : Prop := Claim7.holds Tryz.pinned (.plain (OpenSpec.upto machinesSpec)) machinesUptoCard

/-- THE SECOND FORM's CARD OF 'unfoldlaw.Traces'. -/
def tracesUptoCard : Claim7 := { stood := { row := tracesUptoRow, standIns := [], harness := (true, "698a8df25c5f384a0b1b8bacd575b0c5e8adb6d808d0db6d8a8c2fe8a86cb5ef"), looks := false }, kinds := [], alts := [], laidByText := true, laidKinds := [.data, .data, .data, .data], laidTests := true, laidLooks := .later }
def TracesUptoCardSaid : Prop := Claim7.holds Tryz.pinned (.plain (OpenSpec.upto tracesSpec)) tracesUptoCard
end Rows
end Go.Proofs.YtffnfjkjlmlonaaGreatDoor
