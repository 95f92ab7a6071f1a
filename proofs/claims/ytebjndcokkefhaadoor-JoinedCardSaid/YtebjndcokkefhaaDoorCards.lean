/-
  DERIVED. GIVEN WITH THE SEED: THE CARDS: each row of YtebjndcokkefhaaDoorRows.lean that lists a variable, with what it lists TIED to the program's text (the seventh form; the later family's looks); each row that meets fmt, with fmt's text TOLD by the authors' own Lean function (tested against real Go, not proved from fmt's source: count such statements apart). THE CARD IS WHAT COUNTS. Prove the row's statement (the work); the ties are given (YtebjndcokkefhaaDoorTie.lean); close each card by the builder's one call (the guide's Derived/Test/ToyasCard.lean, 'card_holds'). Laid BY PROGRAM, IN A SANDBOX (cutbox-door.mjs). By AI agents, Wed Nov 11 2026. No macro, syntax, notation, axiom, sorry.
-/
import Derived.Test.YtebjndcokkefhaaDoorRows
import GoSem.ClaimSeven
namespace Go.Proofs.YtebjndcokkefhaaDoor
namespace Rows

/-- THE TIED CARD OF 'unfoldkeep.Written'. -/
def writtenCard : Claim7 := { stood := { row := writtenRow, standIns := [], harness := (true, "c807c5c06c89f64963fe3158be2eb10e0cfc9d7a2683506b903440e5e64163aa"), looks := false }, kinds := [], alts := [], laidByText := true, laidKinds := [.data], laidTests := true, laidLooks := .later }
def WrittenCardSaid : Prop := Claim7.holds Tryd.pinned (.plain (OpenSpec.ofChange writtenSpec)) writtenCard

/-- THE TIED CARD OF 'unfoldkeep.Budgets'. -/
def budgetsCard : Claim7 := { stood := { row := budgetsRow, standIns := [], harness := (true, "c807c5c06c89f64963fe3158be2eb10e0cfc9d7a2683506b903440e5e64163aa"), looks := false }, kinds := [], alts := [], laidByText := true, laidKinds := [.data, .data, .data, .data], laidTests := true, laidLooks := .later }
def BudgetsCardSaid : Prop := Claim7.holds Tryd.pinned (.plain (OpenSpec.ofChange budgetsSpec)) budgetsCard

/-- THE TIED CARD OF 'unfoldkeep.Flat'. -/
def flatCard : Claim7 := { stood := { row := flatRow, standIns := [], harness := (true, "c807c5c06c89f64963fe3158be2eb10e0cfc9d7a2683506b903440e5e64163aa"), looks := false }, kinds := [], alts := [], laidByText := true, laidKinds := [.data], laidTests := true, laidLooks := .later }
def FlatCardSaid : Prop := Claim7.holds Tryd.pinned (.plain (OpenSpec.ofChange flatSpec)) flatCard

/-- THE TIED CARD OF 'unfoldkeep.Joined'. -/
def joinedCard : Claim7 := { stood := { row := joinedRow, standIns := [], harness := (true, "c807c5c06c89f64963fe3158be2eb10e0cfc9d7a2683506b903440e5e64163aa"), looks := false }, kinds := [], alts := [], laidByText := true, laidKinds := [.data], laidTests := true, laidLooks := .later }
def JoinedCardSaid : Prop := Claim7.holds Tryd.pinned (.plain (OpenSpec.ofChange joinedSpec)) joinedCard

/-- THE SECOND FORM's CARD OF 'unfoldkeep.Written'. -/
def writtenUptoCard : Claim7 := { stood := { row := writtenUptoRow, standIns := [], harness := (true, "c807c5c06c89f64963fe3158be2eb10e0cfc9d7a2683506b903440e5e64163aa"), looks := false }, kinds := [], alts := [], laidByText := true, laidKinds := [.data], laidTests := true, laidLooks := .later }
def WrittenUptoCardSaid : Prop := Claim7.holds Tryd.pinned (.plain (OpenSpec.upto writtenSpec)) writtenUptoCard

/-- THE SECOND FORM's CARD OF 'unfoldkeep.Budgets'. -/
def budgetsUptoCard : Claim7 := { stood := { row := budgetsUptoRow, standIns := [], harness := (true, "c807c5c06c89f64963fe3158be2eb10e0cfc9d7a2683506b903440e5e64163aa"), looks := false }, kinds := [], alts := [], laidByText := true, laidKinds := [.data, .data, .data, .data], laidTests := true, laidLooks := .later }
def BudgetsUptoCardSaid : Prop := Claim7.holds Tryd.pinned (.plain (OpenSpec.upto budgetsSpec)) budgetsUptoCard

/-- THE SECOND FORM's CARD OF 'unfoldkeep.Flat'. -/
def flatUptoCard : Claim7 := { stood := { row := flatUptoRow, standIns := [], harness := (true, "c807c5c06c89f64963fe3158be2eb10e0cfc9d7a2683506b903440e5e64163aa"), looks := false }, kinds := [], alts := [], laidByText := true, laidKinds := [.data], laidTests := true, laidLooks := .later }
def FlatUptoCardSaid : Prop := Claim7.holds Tryd.pinned (.plain (OpenSpec.upto flatSpec)) flatUptoCard

/-- THE SECOND FORM's CARD OF 'unfoldkeep.Joined'. -/
def joinedUptoCard : Claim7 := { stood := { row := joinedUptoRow, standIns := [], harness := (true, "c807c5c06c89f64963fe3158be2eb10e0cfc9d7a2683506b903440e5e64163aa"), looks := false }, kinds := [], alts := [], laidByText := true, laidKinds := [.data], laidTests := true, laidLooks := .later }
def JoinedUptoCardSaid : Prop := Claim7.holds Tryd.pinned (.plain (OpenSpec.upto joinedSpec)) joinedUptoCard
end Rows
end Go.Proofs.YtebjndcokkefhaaDoor
