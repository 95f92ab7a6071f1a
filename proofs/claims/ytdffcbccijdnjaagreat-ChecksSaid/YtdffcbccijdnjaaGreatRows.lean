/-
  No cell of these rows narrows 'for every input' (looked for: loops, veiled, ifaces, maps, wideKeys, modest, calm, conditions, laid).
  DERIVED. THE GIVEN ROWS OF THIS SEAT. 4 by the template 'for every input the law returns true; each argument reads behind the call as it read before'; 0 by the template 'total and deterministic' (their statements: YtdffcbccijdnjaaGreatTotals.lean).
  GIVEN WITH THE SEED: the statements are not yours to turn. If you find one false, say at which input.
  Laid BY PROGRAM, IN A SANDBOX (cutbox-rows.mjs): the forced cells as the released guide's own fill.sh prints them over the translation 7931c3e696f3a5b4… (all of the seat's roots in one cut). By AI agents, Wed Nov 11 2026. No macro, syntax, notation, axiom, sorry.
-/
import Derived.Test.YtdffcbccijdnjaaGreatChecked
import GoSem.Claim
import GoSem.ClaimJoined
import GoSem.ClaimMapViews
import Derived.JoinedTies
import Derived.KernelRfl
namespace Go.Proofs.YtdffcbccijdnjaaGreat
/- THE CELL 'sum', in the pinned program and in every row, IS THE sha256 OF THE DUMP (.gsa) THAT YtdffcbccijdnjaaGreatProg.lean LOADS. Nothing in Lean hashes anything: it is a label: what it is worth is what the hold of that sum in a sandbox is worth. -/
noncomputable def Tryz.pinned : Pinned := { name := "ytdffcbccijdnjaagreat", sum := "7931c3e696f3a5b434f6916519d57567bc8fb8fc7a1fbbea351a3c6d060c2c72", checked := Tryz.checked }
namespace Rows
def none {H : Type} : Left H := { results := [], args := [] }

/-- 'unfoldlaw.Numbers': WHATEVER THE INPUT: true; the input reads as it did. -/
def numbersSpec : ChangeSpec := { name := "numbers", fn := fun _ => fun
  | [d] => { results := [.lit (.bool true)], args := [d] }
  | _ => none }
def numbersRow : OpenClaim := { program := "ytdffcbccijdnjaagreat", sum := "7931c3e696f3a5b434f6916519d57567bc8fb8fc7a1fbbea351a3c6d060c2c72", func := "unfold/unfoldlaw.Numbers", spec := "numbers", recurses := true, apart := false }
def NumbersSaid : Prop := numbersRow.holds Tryz.pinned (OpenSpec.ofChange numbersSpec)

/-- ITS FALSE NEIGHBOUR: 'it returns false'. Refute it at one input. -/
def numbersWrong : ChangeSpec := { name := "numbers", fn := fun _ => fun
  | [d] => { results := [.lit (.bool false)], args := [d] }
  | _ => none }
def NumbersWrongFalsely : Prop := numbersRow.holds Tryz.pinned (OpenSpec.ofChange numbersWrong)

/-- 'unfoldlaw.Tables': WHATEVER THE INPUT: true; the input reads as it did. -/
def tablesSpec : ChangeSpec := { name := "tables", fn := fun _ => fun
  | [d] => { results := [.lit (.bool true)], args := [d] }
  | _ => none }
def tablesRow : OpenClaim := { program := "ytdffcbccijdnjaagreat", sum := "7931c3e696f3a5b434f6916519d57567bc8fb8fc7a1fbbea351a3c6d060c2c72", func := "unfold/unfoldlaw.Tables", spec := "tables", recurses := true, apart := false }
def TablesSaid : Prop := tablesRow.holds Tryz.pinned (OpenSpec.ofChange tablesSpec)

/-- ITS FALSE NEIGHBOUR: 'it returns false'. Refute it at one input. -/
def tablesWrong : ChangeSpec := { name := "tables", fn := fun _ => fun
  | [d] => { results := [.lit (.bool false)], args := [d] }
  | _ => none }
def TablesWrongFalsely : Prop := tablesRow.holds Tryz.pinned (OpenSpec.ofChange tablesWrong)

/-- 'unfoldlaw.Checks': WHATEVER THE INPUT: true; the input reads as it did. -/
def checksSpec : ChangeSpec := { name := "checks", fn := fun _ => fun
  | [d] => { results := [.lit (.bool true)], args := [d] }
  | _ => none }
def checksRow : OpenClaim := { program := "ytdffcbccijdnjaagreat", sum := "7931c3e696f3a5b434f6916519d57567bc8fb8fc7a1fbbea351a3c6d060c2c72", func := "unfold/unfoldlaw.Checks", spec := "checks", recurses := true, apart := false }
def ChecksSaid : Prop := checksRow.holds Tryz.pinned (OpenSpec.ofChange checksSpec)

/-- ITS FALSE NEIGHBOUR: 'it returns false'. Refute it at one input. -/
def checksWrong : ChangeSpec := { name := "checks", fn := fun _ => fun
  | [d] => { results := [.lit (.bool false)], args := [d] }
  | _ => none }
def ChecksWrongFalsely : Prop := checksRow.holds Tryz.pinned (OpenSpec.ofChange checksWrong)

/-- 'unfoldlaw.Played': WHATEVER THE INPUT: true; the input reads as it did. -/
def playedSpec : ChangeSpec := { name := "played", fn := fun _ => fun
  | [d] => { results := [.lit (.bool true)], args := [d] }
  | _ => none }
def playedRow : OpenClaim := { program := "ytdffcbccijdnjaagreat", sum := "7931c3e696f3a5b434f6916519d57567bc8fb8fc7a1fbbea351a3c6d060c2c72", func := "unfold/unfoldlaw.Played", spec := "played", recurses := true, apart := false }
def PlayedSaid : Prop := playedRow.holds Tryz.pinned (OpenSpec.ofChange playedSpec)

/-- ITS FALSE NEIGHBOUR: 'it returns false'. Refute it at one input. -/
def playedWrong : ChangeSpec := { name := "played", fn := fun _ => fun
  | [d] => { results := [.lit (.bool false)], args := [d] }
  | _ => none }
def PlayedWrongFalsely : Prop := playedRow.holds Tryz.pinned (OpenSpec.ofChange playedWrong)

/- THE SECOND FORM. 'bulk': how many values and letters a reading holds, each counted each time it is reached (what is shared counts as often as it is met; a slice's spare places count too). A statement '..UptoSaid' is the law's where the arguments, and the package variables that the reading takes, are together of bulk at most 1048576: NARROWER than '..Said'. Prove '..Said' where nothing that the law and all that it calls make is longer than what came in: it says more and counts as full. Else prove '..UptoSaid'. A law counts once. -/
mutual
def uptoBulk {H : Type} : DataW H → Nat
  | .lit (.string bytes) => bytes.length + 1
  | .lit _ => 1
  | .nil => 1
  | .ptr d => uptoBulk d + 1
  | .slice elems spare => uptoBulkAll elems + uptoBulkAll spare + 1
  | .agg parts => uptoBulkAll parts + 1
  | .iface _ d => uptoBulk d + 1
  | .map entries => uptoBulkEntries entries + 1
  | .held _ => 1
def uptoBulkAll {H : Type} : List (DataW H) → Nat
  | [] => 0
  | d :: r => uptoBulk d + uptoBulkAll r
def uptoBulkEntries {H : Type} : List (Lit × DataW H) → Nat
  | [] => 0
  | x :: r => uptoBulkEntry x + uptoBulkEntries r
def uptoBulkEntry {H : Type} : Lit × DataW H → Nat
  | (.string bytes, d) => bytes.length + uptoBulk d + 1
  | (_, d) => uptoBulk d + 1
 end
def uptoSmall : (H : Type) → List (DataW H) → Bool := fun _ ds => decide (uptoBulkAll ds ≤ 1048576)
def OpenSpec.upto (s : _root_.Go.ChangeSpec) : _root_.Go.OpenSpec := { _root_.Go.OpenSpec.ofChange s with cond := some uptoSmall }

/-- 'unfoldlaw.Numbers', WHERE WHAT IT READS IS OF BULK AT MOST 1048576: true; the input reads as it did. -/
def numbersUptoRow : OpenClaim := { program := "ytdffcbccijdnjaagreat", sum := "7931c3e696f3a5b434f6916519d57567bc8fb8fc7a1fbbea351a3c6d060c2c72", func := "unfold/unfoldlaw.Numbers", spec := "numbers", recurses := true, apart := false, narrowed := true }
def NumbersUptoSaid : Prop := numbersUptoRow.holds Tryz.pinned (OpenSpec.upto numbersSpec)

/-- 'unfoldlaw.Tables', WHERE WHAT IT READS IS OF BULK AT MOST 1048576: true; the input reads as it did. -/
def tablesUptoRow : OpenClaim := { program := "ytdffcbccijdnjaagreat", sum := "7931c3e696f3a5b434f6916519d57567bc8fb8fc7a1fbbea351a3c6d060c2c72", func := "unfold/unfoldlaw.Tables", spec := "tables", recurses := true, apart := false, narrowed := true }
def TablesUptoSaid : Prop := tablesUptoRow.holds Tryz.pinned (OpenSpec.upto tablesSpec)

/-- 'unfoldlaw.Checks', WHERE WHAT IT READS IS OF BULK AT MOST 1048576: true; the input reads as it did. -/
def checksUptoRow : OpenClaim := { program := "ytdffcbccijdnjaagreat", sum := "7931c3e696f3a5b434f6916519d57567bc8fb8fc7a1fbbea351a3c6d060c2c72", func := "unfold/unfoldlaw.Checks", spec := "checks", recurses := true, apart := false, narrowed := true }
def ChecksUptoSaid : Prop := checksUptoRow.holds Tryz.pinned (OpenSpec.upto checksSpec)

/-- 'unfoldlaw.Played', WHERE WHAT IT READS IS OF BULK AT MOST 1048576: true; the input reads as it did. -/
def playedUptoRow : OpenClaim := { program := "ytdffcbccijdnjaagreat", sum := "7931c3e696f3a5b434f6916519d57567bc8fb8fc7a1fbbea351a3c6d060c2c72", func := "unfold/unfoldlaw.Played", spec := "played", recurses := true, apart := false, narrowed := true }
def PlayedUptoSaid : Prop := playedUptoRow.holds Tryz.pinned (OpenSpec.upto playedSpec)

end Rows
end Go.Proofs.YtdffcbccijdnjaaGreat
