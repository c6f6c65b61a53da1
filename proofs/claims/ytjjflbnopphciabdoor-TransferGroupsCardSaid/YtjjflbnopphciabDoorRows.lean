/-
  NARROWER THAN 'FOR EVERY INPUT', by the rows' own cells (each row's printed sentence says how): TransferRestored: laid · TransferGroups: laid.
  DERIVED. THE GIVEN ROWS OF THIS SEAT. 2 by the template 'for every input the law returns true; each argument reads behind the call as it read before'; 0 by the template 'total and deterministic' (their statements: YtjjflbnopphciabDoorTotals.lean).
  GIVEN WITH THE SEED: the statements are not yours to turn. If you find one false, say at which input.
  Laid BY PROGRAM, IN A SANDBOX (cutbox-rows.mjs): the forced cells as the released guide's own fill.sh prints them over the translation f1e2bc1adddf405d… (all of the seat's roots in one cut). By AI agents, Wed Nov 11 2026. No macro, syntax, notation, axiom, sorry.
-/
import Derived.Test.YtjjflbnopphciabDoorChecked
import GoSem.Claim
import GoSem.ClaimJoined
import GoSem.ClaimMapViews
import Derived.JoinedTies
import Derived.KernelRfl
namespace Go.Proofs.YtjjflbnopphciabDoor
/- THE CELL 'sum', in the pinned program and in every row, IS THE sha256 OF THE DUMP (.gsa) THAT YtjjflbnopphciabDoorProg.lean LOADS. Nothing in Lean hashes anything: it is a label: what it is worth is what the hold of that sum in a sandbox is worth. -/
noncomputable def Tryd.pinned : Pinned := { name := "ytjjflbnopphciabdoor", sum := "f1e2bc1adddf405d90bdf2b0a5a0449f6eb535de8ba2ca0e14a5f36e2b6d744d", checked := Tryd.checked }
namespace Rows
def none {H : Type} : Left H := { results := [], args := [] }

/- WHAT THE LISTED PACKAGE-LEVEL VARIABLES READ AS WHEN THE CALL BEGINS. Each datum BY PROGRAM (the guide's laid-datum.mjs) off the statement by which the dump's own 'gosem.cut.vars' lays the variable. In a bare row this is a premise. The card (YtjjflbnopphciabDoorCards.lean) ties it to the program's text. -/
def laid_lacquer_transfer_predictors {H : Type} : DataW H := .agg [.agg [.lit (.int .i64 0), .lit (.int .i64 0)], .agg [.lit (.int .i64 1), .lit (.int .i64 0)], .agg [.lit (.int .i64 2), .lit (.int .i64 (-1))]]

/-- 'lacquerlaw01.TransferRestored': WHATEVER THE INPUT: true; the input reads as it did. -/
def transferRestoredSpec : ChangeSpec := { name := "transferRestored", fn := fun _ => fun
  | [d1, d2, d3] => { results := [.lit (.bool true)], args := [d1, d2, d3] }
  | _ => none }
def transferRestoredRow : OpenClaim := { program := "ytjjflbnopphciabdoor", sum := "f1e2bc1adddf405d90bdf2b0a5a0449f6eb535de8ba2ca0e14a5f36e2b6d744d", func := "lacquer/lacquerlaw01.TransferRestored", spec := "transferRestored", unfollowed := true, recurses := true, named := ["lacquer/transfer.predictors"], apart := false, laid := [("lacquer/transfer.predictors", laid_lacquer_transfer_predictors)] }
def TransferRestoredSaid : Prop := transferRestoredRow.holds Tryd.pinned (OpenSpec.ofChange transferRestoredSpec)

/-- ITS FALSE NEIGHBOUR: 'it returns false'. Refute it at one input. -/
def transferRestoredWrong : ChangeSpec := { name := "transferRestored", fn := fun _ => fun
  | [d1, d2, d3] => { results := [.lit (.bool false)], args := [d1, d2, d3] }
  | _ => none }
def TransferRestoredWrongFalsely : Prop := transferRestoredRow.holds Tryd.pinned (OpenSpec.ofChange transferRestoredWrong)

/-- 'lacquerlaw01.TransferGroups': WHATEVER THE INPUT: true; the input reads as it did. -/
def transferGroupsSpec : ChangeSpec := { name := "transferGroups", fn := fun _ => fun
  | [d] => { results := [.lit (.bool true)], args := [d] }
  | _ => none }
def transferGroupsRow : OpenClaim := { program := "ytjjflbnopphciabdoor", sum := "f1e2bc1adddf405d90bdf2b0a5a0449f6eb535de8ba2ca0e14a5f36e2b6d744d", func := "lacquer/lacquerlaw01.TransferGroups", spec := "transferGroups", unfollowed := true, recurses := true, named := ["lacquer/transfer.predictors"], apart := false, laid := [("lacquer/transfer.predictors", laid_lacquer_transfer_predictors)] }
def TransferGroupsSaid : Prop := transferGroupsRow.holds Tryd.pinned (OpenSpec.ofChange transferGroupsSpec)

/-- ITS FALSE NEIGHBOUR: 'it returns false'. Refute it at one input. -/
def transferGroupsWrong : ChangeSpec := { name := "transferGroups", fn := fun _ => fun
  | [d] => { results := [.lit (.bool false)], args := [d] }
  | _ => none }
def TransferGroupsWrongFalsely : Prop := transferGroupsRow.holds Tryd.pinned (OpenSpec.ofChange transferGroupsWrong)

/- THE SECOND FORM. 'bulk': how many values and letters a reading holds, each counted each time it is reached (what is shared counts as often as it is met; a slice's spare places count too). A statement '..UptoSaid' is the law's where the arguments, and the package variables that the reading takes, are together of bulk at most 1048576: NARROWER than '..Said'. Prove '..Said' where nothing that the law and all that it calls make is longer than what came in: it says more and counts as full. Else prove '..UptoSaid'. A law counts once. -/
mutual
def uptoBulk {H : Type} : DataW H → Nat
  | .lit (.string bytes) => bytes.length + 1
  | .lit _ => 1
  | .nil => 1
  | .ptr d => uptoBulk d + 1
  | .slice elems spare => uptoBulkAll elems + uptoBulkAll spare + 1
  | .agg parts => uptoBulkAll parts + 1
  | .iface _ d => uptoBulk d + 1
  | .map entries => uptoBulkEntries entries + 1
  | .held _ => 1
def uptoBulkAll {H : Type} : List (DataW H) → Nat
  | [] => 0
  | d :: r => uptoBulk d + uptoBulkAll r
def uptoBulkEntries {H : Type} : List (Lit × DataW H) → Nat
  | [] => 0
  | x :: r => uptoBulkEntry x + uptoBulkEntries r
def uptoBulkEntry {H : Type} : Lit × DataW H → Nat
  | (.string bytes, d) => bytes.length + uptoBulk d + 1
  | (_, d) => uptoBulk d + 1
 end
def uptoSmall : (H : Type) → List (DataW H) → Bool := fun _ ds => decide (uptoBulkAll ds ≤ 1048576)
def OpenSpec.upto (s : _root_.Go.ChangeSpec) : _root_.Go.OpenSpec := { _root_.Go.OpenSpec.ofChange s with cond := some uptoSmall }

/-- 'lacquerlaw01.TransferRestored', WHERE WHAT IT READS IS OF BULK AT MOST 1048576: true; the input reads as it did. -/
def transferRestoredUptoRow : OpenClaim := { program := "ytjjflbnopphciabdoor", sum := "f1e2bc1adddf405d90bdf2b0a5a0449f6eb535de8ba2ca0e14a5f36e2b6d744d", func := "lacquer/lacquerlaw01.TransferRestored", spec := "transferRestored", unfollowed := true, recurses := true, named := ["lacquer/transfer.predictors"], apart := false, laid := [("lacquer/transfer.predictors", laid_lacquer_transfer_predictors)], narrowed := true }
def TransferRestoredUptoSaid : Prop := transferRestoredUptoRow.holds Tryd.pinned (OpenSpec.upto transferRestoredSpec)

/-- 'lacquerlaw01.TransferGroups', WHERE WHAT IT READS IS OF BULK AT MOST 1048576: true; the input reads as it did. -/
def transferGroupsUptoRow : OpenClaim := { program := "ytjjflbnopphciabdoor", sum := "f1e2bc1adddf405d90bdf2b0a5a0449f6eb535de8ba2ca0e14a5f36e2b6d744d", func := "lacquer/lacquerlaw01.TransferGroups", spec := "transferGroups", unfollowed := true, recurses := true, named := ["lacquer/transfer.predictors"], apart := false, laid := [("lacquer/transfer.predictors", laid_lacquer_transfer_predictors)], narrowed := true }
def TransferGroupsUptoSaid : Prop := transferGroupsUptoRow.holds Tryd.pinned (OpenSpec.upto transferGroupsSpec)

end Rows
end Go.Proofs.YtjjflbnopphciabDoor
