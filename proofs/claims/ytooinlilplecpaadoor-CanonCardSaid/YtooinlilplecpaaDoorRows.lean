/-
  NARROWER THAN 'FOR EVERY INPUT', by the rows' own cells (each row's printed sentence says how): Canon: laid.
  DERIVED. THE GIVEN ROWS OF THIS SEAT. 1 by the template 'for every input the law returns true; each argument reads behind the call as it read before'; 0 by the template 'total and deterministic' (their statements: YtooinlilplecpaaDoorTotals.lean).
  GIVEN WITH THE SEED: the statements are not yours to turn. If you find one false, say at which input.
  Laid BY PROGRAM, IN A SANDBOX (cutbox-rows.mjs): the forced cells as the released guide's own fill.sh prints them over the translation c239634c936dc511… (all of the seat's roots in one cut). By AI agents, Wed Nov 11 2026. No macro, syntax, notation, axiom, sorry.
-/
import Derived.Test.YtooinlilplecpaaDoorChecked
import GoSem.Claim
import GoSem.ClaimJoined
import GoSem.ClaimMapViews
import Derived.JoinedTies
import Derived.KernelRfl
namespace Go.Proofs.YtooinlilplecpaaDoor
/- THE CELL 'sum', in the pinned program and in every row, IS THE sha256 OF THE DUMP (.gsa) THAT YtooinlilplecpaaDoorProg.lean LOADS. Nothing in Lean hashes anything: it is a label: what it is worth is what the hold of that sum in a sandbox is worth. -/
noncomputable def Tryd.pinned : Pinned := { name := "ytooinlilplecpaadoor", sum := "c239634c936dc51178923d1ae1c277ca25624fc758d4ed691ec88dc27ef5106f", checked := Tryd.checked }
namespace Rows
def none {H : Type} : Left H := { results := [], args := [] }

/- WHAT THE LISTED PACKAGE-LEVEL VARIABLES READ AS WHEN THE CALL BEGINS. Each datum BY PROGRAM (the guide's laid-datum.mjs) off the statement by which the dump's own 'gosem.cut.vars' lays the variable. In a bare row this is a premise. The card (YtooinlilplecpaaDoorCards.lean) ties it to the program's text. -/
def laid_unfold_image_head {H : Type} : DataW H := .agg [.lit (.int .u8 85), .lit (.int .u8 70), .lit (.int .u8 1)]

/-- 'unfoldkeep.Canon': WHATEVER THE INPUT: true; the input reads as it did. -/
def canonSpec : ChangeSpec := { name := "canon", fn := fun _ => fun
  | [d] => { results := [.lit (.bool true)], args := [d] }
  | _ => none }
def canonRow : OpenClaim := { program := "ytooinlilplecpaadoor", sum := "c239634c936dc51178923d1ae1c277ca25624fc758d4ed691ec88dc27ef5106f", func := "unfold/unfoldkeep.Canon", spec := "canon", named := ["unfold/image.head"], apart := false, laid := [("unfold/image.head", laid_unfold_image_head)] }
def CanonSaid : Prop := canonRow.holds Tryd.pinned (OpenSpec.ofChange canonSpec)

/-- ITS FALSE NEIGHBOUR: 'it returns false'. Refute it at one input. -/
def canonWrong : ChangeSpec := { name := "canon", fn := fun _ => fun
  | [d] => { results := [.lit (.bool false)], args := [d] }
  | _ => none }
def CanonWrongFalsely : Prop := canonRow.holds Tryd.pinned (OpenSpec.ofChange canonWrong)

/- THE SECOND FORM. 'bulk': how many values and letters a reading holds, each counted each time it is reached (what is shared counts as often as it is met; a slice's spare places count too). A statement '..UptoSaid' is the law's where the arguments, and the package variables that the reading takes, are together of bulk at most 1048576: NARROWER than '..Said'. Prove '..Said' where nothing that the law and all that it calls make is longer than what came in: it says more and counts as full. Else prove '..UptoSaid'. A law counts once. -/
mutual
def uptoBulk {H : Type} : DataW H → Nat
  | .lit (.string bytes) => bytes.length + 1
  | .lit _ => 1
  | .nil => 1
  | .ptr d => uptoBulk d + 1
  | .slice elems spare => uptoBulkAll elems + uptoBulkAll spare + 1
  | .agg parts => uptoBulkAll parts + 1
  | .iface _ d => uptoBulk d + 1
  | .map entries => uptoBulkEntries entries + 1
  | .held _ => 1
def uptoBulkAll {H : Type} : List (DataW H) → Nat
  | [] => 0
  | d :: r => uptoBulk d + uptoBulkAll r
def uptoBulkEntries {H : Type} : List (Lit × DataW H) → Nat
  | [] => 0
  | x :: r => uptoBulkEntry x + uptoBulkEntries r
def uptoBulkEntry {H : Type} : Lit × DataW H → Nat
  | (.string bytes, d) => bytes.length + uptoBulk d + 1
  | (_, d) => uptoBulk d + 1
 end
def uptoSmall : (H : Type) → List (DataW H) → Bool := fun _ ds => decide (uptoBulkAll ds ≤ 1048576)
def OpenSpec.upto (s : _root_.Go.ChangeSpec) : _root_.Go.OpenSpec := { _root_.Go.OpenSpec.ofChange s with cond := some uptoSmall }

/-- 'unfoldkeep.Canon', WHERE WHAT IT READS IS OF BULK AT MOST 1048576: true; the input reads as it did. -/
def canonUptoRow : OpenClaim := { program := "ytooinlilplecpaadoor", sum := "c239634c936dc51178923d1ae1c277ca25624fc758d4ed691ec88dc27ef5106f", func := "unfold/unfoldkeep.Canon", spec := "canon", named := ["unfold/image.head"], apart := false, laid := [("unfold/image.head", laid_unfold_image_head)], narrowed := true }
def CanonUptoSaid : Prop := canonUptoRow.holds Tryd.pinned (OpenSpec.upto canonSpec)

end Rows
end Go.Proofs.YtooinlilplecpaaDoor
