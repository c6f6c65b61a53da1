/-
  NARROWER THAN 'FOR EVERY INPUT', by the rows' own cells (each row's printed sentence says how): GrooveTurned: laid · GrooveCenters: laid · GrooveEnclosed: laid · GroovePaths: laid.
  DERIVED. THE GIVEN ROWS OF THIS SEAT. 4 by the template 'for every input the law returns true; each argument reads behind the call as it read before'; 0 by the template 'total and deterministic' (their statements: YtpkjkegcdddimaaDoorTotals.lean).
  GIVEN WITH THE SEED: the statements are not yours to turn. If you find one false, say at which input.
  Laid BY PROGRAM, IN A SANDBOX (cutbox-rows.mjs): the forced cells as the released guide's own fill.sh prints them over the translation 2e27c7a41d12a0fe… (all of the seat's roots in one cut). By AI agents, Wed Nov 11 2026. No macro, syntax, notation, axiom, sorry.
-/
import Derived.Test.YtpkjkegcdddimaaDoorChecked
import GoSem.Claim
import GoSem.ClaimJoined
import GoSem.ClaimMapViews
import Derived.JoinedTies
import Derived.KernelRfl
namespace Go.Proofs.YtpkjkegcdddimaaDoor
/- THE CELL 'sum', in the pinned program and in every row, IS THE sha256 OF THE DUMP (.gsa) THAT YtpkjkegcdddimaaDoorProg.lean LOADS. Nothing in Lean hashes anything: it is a label: what it is worth is what the hold of that sum in a sandbox is worth. -/
noncomputable def Tryd.pinned : Pinned := { name := "ytpkjkegcdddimaadoor", sum := "2e27c7a41d12a0fe400ee21d0eefb3d73e0933dfc14ec45efb0199de6e8a0f90", checked := Tryd.checked }
namespace Rows
def none {H : Type} : Left H := { results := [], args := [] }

/- WHAT THE LISTED PACKAGE-LEVEL VARIABLES READ AS WHEN THE CALL BEGINS. Each datum BY PROGRAM (the guide's laid-datum.mjs) off the statement by which the dump's own 'gosem.cut.vars' lays the variable. In a bare row this is a premise. The card (YtpkjkegcdddimaaDoorCards.lean) ties it to the program's text. -/
def laid_lacquer_groove_sides {H : Type} : DataW H := .agg [.agg [.agg [.lit (.int .i64 0), .lit (.int .i64 1)], .lit (.int .i64 1)], .agg [.agg [.lit (.int .i64 (-1)), .lit (.int .i64 0)], .lit (.int .i64 2)], .agg [.agg [.lit (.int .i64 0), .lit (.int .i64 (-1))], .lit (.int .i64 2)], .agg [.agg [.lit (.int .i64 1), .lit (.int .i64 0)], .lit (.int .i64 2)], .agg [.agg [.lit (.int .i64 0), .lit (.int .i64 1)], .lit (.int .i64 1)]]

/-- 'lacquerlaw02.GrooveTurned': WHATEVER THE INPUT: true; the input reads as it did. -/
def grooveTurnedSpec : ChangeSpec := { name := "grooveTurned", fn := fun _ => fun
  | [d] => { results := [.lit (.bool true)], args := [d] }
  | _ => none }
def grooveTurnedRow : OpenClaim := { program := "ytpkjkegcdddimaadoor", sum := "2e27c7a41d12a0fe400ee21d0eefb3d73e0933dfc14ec45efb0199de6e8a0f90", func := "lacquer/lacquerlaw02.GrooveTurned", spec := "grooveTurned", unfollowed := true, recurses := true, named := ["lacquer/groove.sides"], apart := false, laid := [("lacquer/groove.sides", laid_lacquer_groove_sides)] }
def GrooveTurnedSaid : Prop := grooveTurnedRow.holds Tryd.pinned (OpenSpec.ofChange grooveTurnedSpec)

/-- ITS FALSE NEIGHBOUR: 'it returns false'. Refute it at one input. -/
def grooveTurnedWrong : ChangeSpec := { name := "grooveTurned", fn := fun _ => fun
  | [d] => { results := [.lit (.bool false)], args := [d] }
  | _ => none }
def GrooveTurnedWrongFalsely : Prop := grooveTurnedRow.holds Tryd.pinned (OpenSpec.ofChange grooveTurnedWrong)

/-- 'lacquerlaw02.GrooveCenters': WHATEVER THE INPUT: true; the input reads as it did. -/
def grooveCentersSpec : ChangeSpec := { name := "grooveCenters", fn := fun _ => fun
  | [d1, d2] => { results := [.lit (.bool true)], args := [d1, d2] }
  | _ => none }
def grooveCentersRow : OpenClaim := { program := "ytpkjkegcdddimaadoor", sum := "2e27c7a41d12a0fe400ee21d0eefb3d73e0933dfc14ec45efb0199de6e8a0f90", func := "lacquer/lacquerlaw02.GrooveCenters", spec := "grooveCenters", unfollowed := true, recurses := true, named := ["lacquer/groove.sides"], apart := false, laid := [("lacquer/groove.sides", laid_lacquer_groove_sides)] }
def GrooveCentersSaid : Prop := grooveCentersRow.holds Tryd.pinned (OpenSpec.ofChange grooveCentersSpec)

/-- ITS FALSE NEIGHBOUR: 'it returns false'. Refute it at one input. -/
def grooveCentersWrong : ChangeSpec := { name := "grooveCenters", fn := fun _ => fun
  | [d1, d2] => { results := [.lit (.bool false)], args := [d1, d2] }
  | _ => none }
def GrooveCentersWrongFalsely : Prop := grooveCentersRow.holds Tryd.pinned (OpenSpec.ofChange grooveCentersWrong)

/-- 'lacquerlaw02.GrooveEnclosed': WHATEVER THE INPUT: true; the input reads as it did. -/
def grooveEnclosedSpec : ChangeSpec := { name := "grooveEnclosed", fn := fun _ => fun
  | [d1, d2] => { results := [.lit (.bool true)], args := [d1, d2] }
  | _ => none }
def grooveEnclosedRow : OpenClaim := { program := "ytpkjkegcdddimaadoor", sum := "2e27c7a41d12a0fe400ee21d0eefb3d73e0933dfc14ec45efb0199de6e8a0f90", func := "lacquer/lacquerlaw02.GrooveEnclosed", spec := "grooveEnclosed", unfollowed := true, recurses := true, named := ["lacquer/groove.sides"], apart := false, laid := [("lacquer/groove.sides", laid_lacquer_groove_sides)] }
def GrooveEnclosedSaid : Prop := grooveEnclosedRow.holds Tryd.pinned (OpenSpec.ofChange grooveEnclosedSpec)

/-- ITS FALSE NEIGHBOUR: 'it returns false'. Refute it at one input. -/
def grooveEnclosedWrong : ChangeSpec := { name := "grooveEnclosed", fn := fun _ => fun
  | [d1, d2] => { results := [.lit (.bool false)], args := [d1, d2] }
  | _ => none }
def GrooveEnclosedWrongFalsely : Prop := grooveEnclosedRow.holds Tryd.pinned (OpenSpec.ofChange grooveEnclosedWrong)

/-- 'lacquerlaw02.GroovePaths': WHATEVER THE INPUT: true; the input reads as it did. -/
def groovePathsSpec : ChangeSpec := { name := "groovePaths", fn := fun _ => fun
  | [d1, d2] => { results := [.lit (.bool true)], args := [d1, d2] }
  | _ => none }
def groovePathsRow : OpenClaim := { program := "ytpkjkegcdddimaadoor", sum := "2e27c7a41d12a0fe400ee21d0eefb3d73e0933dfc14ec45efb0199de6e8a0f90", func := "lacquer/lacquerlaw02.GroovePaths", spec := "groovePaths", unfollowed := true, recurses := true, named := ["lacquer/groove.sides"], apart := false, laid := [("lacquer/groove.sides", laid_lacquer_groove_sides)] }
def GroovePathsSaid : Prop := groovePathsRow.holds Tryd.pinned (OpenSpec.ofChange groovePathsSpec)

/-- ITS FALSE NEIGHBOUR: 'it returns false'. Refute it at one input. -/
def groovePathsWrong : ChangeSpec := { name := "groovePaths", fn := fun _ => fun
  | [d1, d2] => { results := [.lit (.bool false)], args := [d1, d2] }
  | _ => none }
def GroovePathsWrongFalsely : Prop := groovePathsRow.holds Tryd.pinned (OpenSpec.ofChange groovePathsWrong)

/- THE SECOND FORM. 'bulk': how many values and letters a reading holds, each counted each time it is reached (what is shared counts as often as it is met; a slice's spare places count too). A statement '..UptoSaid' is the law's where the arguments, and the package variables that the reading takes, are together of bulk at most 1048576: NARROWER than '..Said'. Prove '..Said' where nothing that the law and all that it calls make is longer than what came in: it says more and counts as full. Else prove '..UptoSaid'. A law counts once. -/
mutual
def uptoBulk {H : Type} : DataW H → Nat
  | .lit (.string bytes) => bytes.length + 1
  | .lit _ => 1
  | .nil => 1
  | .ptr d => uptoBulk d + 1
  | .slice elems spare => uptoBulkAll elems + uptoBulkAll spare + 1
  | .agg parts => uptoBulkAll parts + 1
  | .iface _ d => uptoBulk d + 1
  | .map entries => uptoBulkEntries entries + 1
  | .held _ => 1
def uptoBulkAll {H : Type} : List (DataW H) → Nat
  | [] => 0
  | d :: r => uptoBulk d + uptoBulkAll r
def uptoBulkEntries {H : Type} : List (Lit × DataW H) → Nat
  | [] => 0
  | x :: r => uptoBulkEntry x + uptoBulkEntries r
def uptoBulkEntry {H : Type} : Lit × DataW H → Nat
  | (.string bytes, d) => bytes.length + uptoBulk d + 1
  | (_, d) => uptoBulk d + 1
 end
def uptoSmall : (H : Type) → List (DataW H) → Bool := fun _ ds => decide (uptoBulkAll ds ≤ 1048576)
def OpenSpec.upto (s : _root_.Go.ChangeSpec) : _root_.Go.OpenSpec := { _root_.Go.OpenSpec.ofChange s with cond := some uptoSmall }

/-- 'lacquerlaw02.GrooveTurned', WHERE WHAT IT READS IS OF BULK AT MOST 1048576: true; the input reads as it did. -/
def grooveTurnedUptoRow : OpenClaim := { program := "ytpkjkegcdddimaadoor", sum := "2e27c7a41d12a0fe400ee21d0eefb3d73e0933dfc14ec45efb0199de6e8a0f90", func := "lacquer/lacquerlaw02.GrooveTurned", spec := "grooveTurned", unfollowed := true, recurses := true, named := ["lacquer/groove.sides"], apart := false, laid := [("lacquer/groove.sides", laid_lacquer_groove_sides)], narrowed := true }
def GrooveTurnedUptoSaid : Prop := grooveTurnedUptoRow.holds Tryd.pinned (OpenSpec.upto grooveTurnedSpec)

/-- 'lacquerlaw02.GrooveCenters', WHERE WHAT IT READS IS OF BULK AT MOST 1048576: true; the input reads as it did. -/
def grooveCentersUptoRow : OpenClaim := { program := "ytpkjkegcdddimaadoor", sum := "2e27c7a41d12a0fe400ee21d0eefb3d73e0933dfc14ec45efb0199de6e8a0f90", func := "lacquer/lacquerlaw02.GrooveCenters", spec := "grooveCenters", unfollowed := true, recurses := true, named := ["lacquer/groove.sides"], apart := false, laid := [("lacquer/groove.sides", laid_lacquer_groove_sides)], narrowed := true }
def GrooveCentersUptoSaid : Prop := grooveCentersUptoRow.holds Tryd.pinned (OpenSpec.upto grooveCentersSpec)

/-- 'lacquerlaw02.GrooveEnclosed', WHERE WHAT IT READS IS OF BULK AT MOST 1048576: true; the input reads as it did. -/
def grooveEnclosedUptoRow : OpenClaim := { program := "ytpkjkegcdddimaadoor", sum := "2e27c7a41d12a0fe400ee21d0eefb3d73e0933dfc14ec45efb0199de6e8a0f90", func := "lacquer/lacquerlaw02.GrooveEnclosed", spec := "grooveEnclosed", unfollowed := true, recurses := true, named := ["lacquer/groove.sides"], apart := false, laid := [("lacquer/groove.sides", laid_lacquer_groove_sides)], narrowed := true }
def GrooveEnclosedUptoSaid : Prop := grooveEnclosedUptoRow.holds Tryd.pinned (OpenSpec.upto grooveEnclosedSpec)

/-- 'lacquerlaw02.GroovePaths', WHERE WHAT IT READS IS OF BULK AT MOST 1048576: true; the input reads as it did. -/
def groovePathsUptoRow : OpenClaim := { program := "ytpkjkegcdddimaadoor", sum := "2e27c7a41d12a0fe400ee21d0eefb3d73e0933dfc14ec45efb0199de6e8a0f90", func := "lacquer/lacquerlaw02.GroovePaths", spec := "groovePaths", unfollowed := true, recurses := true, named := ["lacquer/groove.sides"], apart := false, laid := [("lacquer/groove.sides", laid_lacquer_groove_sides)], narrowed := true }
def GroovePathsUptoSaid : Prop := groovePathsUptoRow.holds Tryd.pinned (OpenSpec.upto groovePathsSpec)

end Rows
end Go.Proofs.YtpkjkegcdddimaaDoor
