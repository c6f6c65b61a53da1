/-
  NARROWER THAN 'FOR EVERY INPUT', by the rows' own cells (each row's printed sentence says how): GrooveRings: laid · GrooveCosts: laid · GroovePaths: laid · GrooveProved: laid · GroovePrices: laid.
  DERIVED. THE GIVEN ROWS OF THIS SEAT. 5 by the template 'for every input the law returns true; each argument reads behind the call as it read before'; 0 by the template 'total and deterministic' (their statements: YtofdjapbofagiaaDoorTotals.lean).
  GIVEN WITH THE SEED: the statements are not yours to turn. If you find one false, say at which input.
  Laid BY PROGRAM, IN A SANDBOX (cutbox-rows.mjs): the forced cells as the released guide's own fill.sh prints them over the translation 0d94e613d0386900… (all of the seat's roots in one cut). By AI agents, Wed Nov 11 2026. No macro, syntax, notation, axiom, sorry.
-/
import Derived.Test.YtofdjapbofagiaaDoorChecked
import GoSem.Claim
import GoSem.ClaimJoined
import GoSem.ClaimMapViews
import Derived.JoinedTies
import Derived.KernelRfl
namespace Go.Proofs.YtofdjapbofagiaaDoor
/- THE CELL 'sum', in the pinned program and in every row, IS THE sha256 OF THE DUMP (.gsa) THAT YtofdjapbofagiaaDoorProg.lean LOADS. Nothing in Lean hashes anything: it is a label: what it is worth is what the hold of that sum in a sandbox is worth. -/
noncomputable def Tryd.pinned : Pinned := { name := "ytofdjapbofagiaadoor", sum := "0d94e613d038690095f57ad6bbd090ad09338ba68a7c62c030fad1b22eb97b5a", checked := Tryd.checked }
namespace Rows
def none {H : Type} : Left H := { results := [], args := [] }

/- WHAT THE LISTED PACKAGE-LEVEL VARIABLES READ AS WHEN THE CALL BEGINS. Each datum BY PROGRAM (the guide's laid-datum.mjs) off the statement by which the dump's own 'gosem.cut.vars' lays the variable. In a bare row this is a premise. The card (YtofdjapbofagiaaDoorCards.lean) ties it to the program's text. -/
def laid_lacquer_groove_sides {H : Type} : DataW H := .agg [.agg [.agg [.lit (.int .i64 0), .lit (.int .i64 1)], .lit (.int .i64 1)], .agg [.agg [.lit (.int .i64 (-1)), .lit (.int .i64 0)], .lit (.int .i64 2)], .agg [.agg [.lit (.int .i64 0), .lit (.int .i64 (-1))], .lit (.int .i64 2)], .agg [.agg [.lit (.int .i64 1), .lit (.int .i64 0)], .lit (.int .i64 2)], .agg [.agg [.lit (.int .i64 0), .lit (.int .i64 1)], .lit (.int .i64 1)]]

/-- 'lacquerlaw02.GrooveRings': WHATEVER THE INPUT: true; the input reads as it did. -/
def grooveRingsSpec : ChangeSpec := { name := "grooveRings", fn := fun _ => fun
  | [d1, d2] => { results := [.lit (.bool true)], args := [d1, d2] }
  | _ => none }
def grooveRingsRow : OpenClaim := { program := "ytofdjapbofagiaadoor", sum := "0d94e613d038690095f57ad6bbd090ad09338ba68a7c62c030fad1b22eb97b5a", func := "lacquer/lacquerlaw02.GrooveRings", spec := "grooveRings", unfollowed := true, recurses := true, named := ["lacquer/groove.sides"], apart := false, laid := [("lacquer/groove.sides", laid_lacquer_groove_sides)] }
def GrooveRingsSaid : Prop := grooveRingsRow.holds Tryd.pinned (OpenSpec.ofChange grooveRingsSpec)

/-- ITS FALSE NEIGHBOUR: 'it returns false'. Refute it at one input. -/
def grooveRingsWrong : ChangeSpec := { name := "grooveRings", fn := fun _ => fun
  | [d1, d2] => { results := [.lit (.bool false)], args := [d1, d2] }
  | _ => none }
def GrooveRingsWrongFalsely : Prop := grooveRingsRow.holds Tryd.pinned (OpenSpec.ofChange grooveRingsWrong)

/-- 'lacquerlaw02.GrooveCosts': WHATEVER THE INPUT: true; the input reads as it did. -/
def grooveCostsSpec : ChangeSpec := { name := "grooveCosts", fn := fun _ => fun
  | [d1, d2, d3] => { results := [.lit (.bool true)], args := [d1, d2, d3] }
  | _ => none }
def grooveCostsRow : OpenClaim := { program := "ytofdjapbofagiaadoor", sum := "0d94e613d038690095f57ad6bbd090ad09338ba68a7c62c030fad1b22eb97b5a", func := "lacquer/lacquerlaw02.GrooveCosts", spec := "grooveCosts", unfollowed := true, recurses := true, named := ["lacquer/groove.sides"], apart := false, laid := [("lacquer/groove.sides", laid_lacquer_groove_sides)] }
def GrooveCostsSaid : Prop := grooveCostsRow.holds Tryd.pinned (OpenSpec.ofChange grooveCostsSpec)

/-- ITS FALSE NEIGHBOUR: 'it returns false'. Refute it at one input. -/
def grooveCostsWrong : ChangeSpec := { name := "grooveCosts", fn := fun _ => fun
  | [d1, d2, d3] => { results := [.lit (.bool false)], args := [d1, d2, d3] }
  | _ => none }
def GrooveCostsWrongFalsely : Prop := grooveCostsRow.holds Tryd.pinned (OpenSpec.ofChange grooveCostsWrong)

/-- 'lacquerlaw02.GroovePaths': WHATEVER THE INPUT: true; the input reads as it did. -/
def groovePathsSpec : ChangeSpec := { name := "groovePaths", fn := fun _ => fun
  | [d1, d2] => { results := [.lit (.bool true)], args := [d1, d2] }
  | _ => none }
def groovePathsRow : OpenClaim := { program := "ytofdjapbofagiaadoor", sum := "0d94e613d038690095f57ad6bbd090ad09338ba68a7c62c030fad1b22eb97b5a", func := "lacquer/lacquerlaw02.GroovePaths", spec := "groovePaths", unfollowed := true, recurses := true, named := ["lacquer/groove.sides"], apart := false, laid := [("lacquer/groove.sides", laid_lacquer_groove_sides)] }
def GroovePathsSaid : Prop := groovePathsRow.holds Tryd.pinned (OpenSpec.ofChange groovePathsSpec)

/-- ITS FALSE NEIGHBOUR: 'it returns false'. Refute it at one input. -/
def groovePathsWrong : ChangeSpec := { name := "groovePaths", fn := fun _ => fun
  | [d1, d2] => { results := [.lit (.bool false)], args := [d1, d2] }
  | _ => none }
def GroovePathsWrongFalsely : Prop := groovePathsRow.holds Tryd.pinned (OpenSpec.ofChange groovePathsWrong)

/-- 'lacquerlaw02.GrooveProved': WHATEVER THE INPUT: true; the input reads as it did. -/
def grooveProvedSpec : ChangeSpec := { name := "grooveProved", fn := fun _ => fun
  | [d1, d2, d3] => { results := [.lit (.bool true)], args := [d1, d2, d3] }
  | _ => none }
def grooveProvedRow : OpenClaim := { program := "ytofdjapbofagiaadoor", sum := "0d94e613d038690095f57ad6bbd090ad09338ba68a7c62c030fad1b22eb97b5a", func := "lacquer/lacquerlaw02.GrooveProved", spec := "grooveProved", unfollowed := true, recurses := true, named := ["lacquer/groove.sides"], apart := false, laid := [("lacquer/groove.sides", laid_lacquer_groove_sides)] }
def GrooveProvedSaid : Prop := grooveProvedRow.holds Tryd.pinned (OpenSpec.ofChange grooveProvedSpec)

/-- ITS FALSE NEIGHBOUR: 'it returns false'. Refute it at one input. -/
def grooveProvedWrong : ChangeSpec := { name := "grooveProved", fn := fun _ => fun
  | [d1, d2, d3] => { results := [.lit (.bool false)], args := [d1, d2, d3] }
  | _ => none }
def GrooveProvedWrongFalsely : Prop := grooveProvedRow.holds Tryd.pinned (OpenSpec.ofChange grooveProvedWrong)

/-- 'lacquerlaw02.GroovePrices': WHATEVER THE INPUT: true; the input reads as it did. -/
def groovePricesSpec : ChangeSpec := { name := "groovePrices", fn := fun _ => fun
  | [d1, d2, d3] => { results := [.lit (.bool true)], args := [d1, d2, d3] }
  | _ => none }
def groovePricesRow : OpenClaim := { program := "ytofdjapbofagiaadoor", sum := "0d94e613d038690095f57ad6bbd090ad09338ba68a7c62c030fad1b22eb97b5a", func := "lacquer/lacquerlaw02.GroovePrices", spec := "groovePrices", unfollowed := true, recurses := true, named := ["lacquer/groove.sides"], apart := false, laid := [("lacquer/groove.sides", laid_lacquer_groove_sides)] }
def GroovePricesSaid : Prop := groovePricesRow.holds Tryd.pinned (OpenSpec.ofChange groovePricesSpec)

/-- ITS FALSE NEIGHBOUR: 'it returns false'. Refute it at one input. -/
def groovePricesWrong : ChangeSpec := { name := "groovePrices", fn := fun _ => fun
  | [d1, d2, d3] => { results := [.lit (.bool false)], args := [d1, d2, d3] }
  | _ => none }
def GroovePricesWrongFalsely : Prop := groovePricesRow.holds Tryd.pinned (OpenSpec.ofChange groovePricesWrong)

/- THE SECOND FORM. 'bulk': how many values and letters a reading holds, each counted each time it is reached (what is shared counts as often as it is met; a slice's spare places count too). A statement '..UptoSaid' is the law's where the arguments, and the package variables that the reading takes, are together of bulk at most 1048576: NARROWER than '..Said'. Prove '..Said' where nothing that the law and all that it calls make is longer than what came in: it says more and counts as full. Else prove '..UptoSaid'. A law counts once. -/
mutual
def uptoBulk {H : Type} : DataW H → Nat
  | .lit (.string bytes) => bytes.length + 1
  | .lit _ => 1
  | .nil => 1
  | .ptr d => uptoBulk d + 1
  | .slice elems spare => uptoBulkAll elems + uptoBulkAll spare + 1
  | .agg parts => uptoBulkAll parts + 1
  | .iface _ d => uptoBulk d + 1
  | .map entries => uptoBulkEntries entries + 1
  | .held _ => 1
def uptoBulkAll {H : Type} : List (DataW H) → Nat
  | [] => 0
  | d :: r => uptoBulk d + uptoBulkAll r
def uptoBulkEntries {H : Type} : List (Lit × DataW H) → Nat
  | [] => 0
  | x :: r => uptoBulkEntry x + uptoBulkEntries r
def uptoBulkEntry {H : Type} : Lit × DataW H → Nat
  | (.string bytes, d) => bytes.length + uptoBulk d + 1
  | (_, d) => uptoBulk d + 1
 end
def uptoSmall : (H : Type) → List (DataW H) → Bool := fun _ ds => decide (uptoBulkAll ds ≤ 1048576)
def OpenSpec.upto (s : _root_.Go.ChangeSpec) : _root_.Go.OpenSpec := { _root_.Go.OpenSpec.ofChange s with cond := some uptoSmall }

/-- 'lacquerlaw02.GrooveRings', WHERE WHAT IT READS IS OF BULK AT MOST 1048576: true; the input reads as it did. -/
def grooveRingsUptoRow : OpenClaim := { program := "ytofdjapbofagiaadoor", sum := "0d94e613d038690095f57ad6bbd090ad09338ba68a7c62c030fad1b22eb97b5a", func := "lacquer/lacquerlaw02.GrooveRings", spec := "grooveRings", unfollowed := true, recurses := true, named := ["lacquer/groove.sides"], apart := false, laid := [("lacquer/groove.sides", laid_lacquer_groove_sides)], narrowed := true }
def GrooveRingsUptoSaid : Prop := grooveRingsUptoRow.holds Tryd.pinned (OpenSpec.upto grooveRingsSpec)

/-- 'lacquerlaw02.GrooveCosts', WHERE WHAT IT READS IS OF BULK AT MOST 1048576: true; the input reads as it did. -/
def grooveCostsUptoRow : OpenClaim := { program := "ytofdjapbofagiaadoor", sum := "0d94e613d038690095f57ad6bbd090ad09338ba68a7c62c030fad1b22eb97b5a", func := "lacquer/lacquerlaw02.GrooveCosts", spec := "grooveCosts", unfollowed := true, recurses := true, named := ["lacquer/groove.sides"], apart := false, laid := [("lacquer/groove.sides", laid_lacquer_groove_sides)], narrowed := true }
def GrooveCostsUptoSaid : Prop := grooveCostsUptoRow.holds Tryd.pinned (OpenSpec.upto grooveCostsSpec)

/-- 'lacquerlaw02.GroovePaths', WHERE WHAT IT READS IS OF BULK AT MOST 1048576: true; the input reads as it did. -/
def groovePathsUptoRow : OpenClaim := { program := "ytofdjapbofagiaadoor", sum := "0d94e613d038690095f57ad6bbd090ad09338ba68a7c62c030fad1b22eb97b5a", func := "lacquer/lacquerlaw02.GroovePaths", spec := "groovePaths", unfollowed := true, recurses := true, named := ["lacquer/groove.sides"], apart := false, laid := [("lacquer/groove.sides", laid_lacquer_groove_sides)], narrowed := true }
def GroovePathsUptoSaid : Prop := groovePathsUptoRow.holds Tryd.pinned (OpenSpec.upto groovePathsSpec)

/-- 'lacquerlaw02.GrooveProved', WHERE WHAT IT READS IS OF BULK AT MOST 1048576: true; the input reads as it did. -/
def grooveProvedUptoRow : OpenClaim := { program := "ytofdjapbofagiaadoor", sum := "0d94e613d038690095f57ad6bbd090ad09338ba68a7c62c030fad1b22eb97b5a", func := "lacquer/lacquerlaw02.GrooveProved", spec := "grooveProved", unfollowed := true, recurses := true, named := ["lacquer/groove.sides"], apart := false, laid := [("lacquer/groove.sides", laid_lacquer_groove_sides)], narrowed := true }
def GrooveProvedUptoSaid : Prop := grooveProvedUptoRow.holds Tryd.pinned (OpenSpec.upto grooveProvedSpec)

/-- 'lacquerlaw02.GroovePrices', WHERE WHAT IT READS IS OF BULK AT MOST 1048576: true; the input reads as it did. -/
def groovePricesUptoRow : OpenClaim := { program := "ytofdjapbofagiaadoor", sum := "0d94e613d038690095f57ad6bbd090ad09338ba68a7c62c030fad1b22eb97b5a", func := "lacquer/lacquerlaw02.GroovePrices", spec := "groovePrices", unfollowed := true, recurses := true, named := ["lacquer/groove.sides"], apart := false, laid := [("lacquer/groove.sides", laid_lacquer_groove_sides)], narrowed := true }
def GroovePricesUptoSaid : Prop := groovePricesUptoRow.holds Tryd.pinned (OpenSpec.upto groovePricesSpec)

end Rows
end Go.Proofs.YtofdjapbofagiaaDoor
