/-
  NARROWER THAN 'FOR EVERY INPUT', by the rows' own cells (each row's printed sentence says how): TransferCuts: laid · TransferParities: laid · TransferStreams: laid · TransferTogether: laid.
  DERIVED. THE GIVEN ROWS OF THIS SEAT. 4 by the template 'for every input the law returns true; each argument reads behind the call as it read before'; 0 by the template 'total and deterministic' (their statements: YtmeddnpahkigeaaDoorTotals.lean).
  GIVEN WITH THE SEED: the statements are not yours to turn. If you find one false, say at which input.
  Laid BY PROGRAM, IN A SANDBOX (cutbox-rows.mjs): the forced cells as the released guide's own fill.sh prints them over the translation 036c596dcd88593f… (all of the seat's roots in one cut). By AI agents, Wed Nov 11 2026. No macro, syntax, notation, axiom, sorry.
-/
import Derived.Test.YtmeddnpahkigeaaDoorChecked
import GoSem.Claim
import GoSem.ClaimJoined
import GoSem.ClaimMapViews
import Derived.JoinedTies
import Derived.KernelRfl
namespace Go.Proofs.YtmeddnpahkigeaaDoor
/- THE CELL 'sum', in the pinned program and in every row, IS THE sha256 OF THE DUMP (.gsa) THAT YtmeddnpahkigeaaDoorProg.lean LOADS. Nothing in Lean hashes anything: it is a label: what it is worth is what the hold of that sum in a sandbox is worth. -/
noncomputable def Tryd.pinned : Pinned := { name := "ytmeddnpahkigeaadoor", sum := "036c596dcd88593fec5ca66f6b89087dabf5d6c1116ec0f9547e4efdb31fbdc7", checked := Tryd.checked }
namespace Rows
def none {H : Type} : Left H := { results := [], args := [] }

/- WHAT THE LISTED PACKAGE-LEVEL VARIABLES READ AS WHEN THE CALL BEGINS. Each datum BY PROGRAM (the guide's laid-datum.mjs) off the statement by which the dump's own 'gosem.cut.vars' lays the variable. In a bare row this is a premise. The card (YtmeddnpahkigeaaDoorCards.lean) ties it to the program's text. -/
def laid_lacquer_transfer_predictors {H : Type} : DataW H := .agg [.agg [.lit (.int .i64 0), .lit (.int .i64 0)], .agg [.lit (.int .i64 1), .lit (.int .i64 0)], .agg [.lit (.int .i64 2), .lit (.int .i64 (-1))]]

/-- 'lacquerlaw01.TransferCuts': WHATEVER THE INPUT: true; the input reads as it did. -/
def transferCutsSpec : ChangeSpec := { name := "transferCuts", fn := fun _ => fun
  | [d1, d2] => { results := [.lit (.bool true)], args := [d1, d2] }
  | _ => none }
def transferCutsRow : OpenClaim := { program := "ytmeddnpahkigeaadoor", sum := "036c596dcd88593fec5ca66f6b89087dabf5d6c1116ec0f9547e4efdb31fbdc7", func := "lacquer/lacquerlaw01.TransferCuts", spec := "transferCuts", unfollowed := true, recurses := true, named := ["lacquer/transfer.predictors"], plainKeys := false, apart := false, laid := [("lacquer/transfer.predictors", laid_lacquer_transfer_predictors)] }
def TransferCutsSaid : Prop := transferCutsRow.holds Tryd.pinned (OpenSpec.ofChange transferCutsSpec)

/-- ITS FALSE NEIGHBOUR: 'it returns false'. Refute it at one input. -/
def transferCutsWrong : ChangeSpec := { name := "transferCuts", fn := fun _ => fun
  | [d1, d2] => { results := [.lit (.bool false)], args := [d1, d2] }
  | _ => none }
def TransferCutsWrongFalsely : Prop := transferCutsRow.holds Tryd.pinned (OpenSpec.ofChange transferCutsWrong)

/-- 'lacquerlaw01.TransferParities': WHATEVER THE INPUT: true; the input reads as it did. -/
def transferParitiesSpec : ChangeSpec := { name := "transferParities", fn := fun _ => fun
  | [d1, d2, d3] => { results := [.lit (.bool true)], args := [d1, d2, d3] }
  | _ => none }
def transferParitiesRow : OpenClaim := { program := "ytmeddnpahkigeaadoor", sum := "036c596dcd88593fec5ca66f6b89087dabf5d6c1116ec0f9547e4efdb31fbdc7", func := "lacquer/lacquerlaw01.TransferParities", spec := "transferParities", unfollowed := true, recurses := true, named := ["lacquer/transfer.predictors"], plainKeys := false, apart := false, laid := [("lacquer/transfer.predictors", laid_lacquer_transfer_predictors)] }
def TransferParitiesSaid : Prop := transferParitiesRow.holds Tryd.pinned (OpenSpec.ofChange transferParitiesSpec)

/-- ITS FALSE NEIGHBOUR: 'it returns false'. Refute it at one input. -/
def transferParitiesWrong : ChangeSpec := { name := "transferParities", fn := fun _ => fun
  | [d1, d2, d3] => { results := [.lit (.bool false)], args := [d1, d2, d3] }
  | _ => none }
def TransferParitiesWrongFalsely : Prop := transferParitiesRow.holds Tryd.pinned (OpenSpec.ofChange transferParitiesWrong)

/-- 'lacquerlaw01.TransferStreams': WHATEVER THE INPUT: true; the input reads as it did. -/
def transferStreamsSpec : ChangeSpec := { name := "transferStreams", fn := fun _ => fun
  | [d1, d2] => { results := [.lit (.bool true)], args := [d1, d2] }
  | _ => none }
def transferStreamsRow : OpenClaim := { program := "ytmeddnpahkigeaadoor", sum := "036c596dcd88593fec5ca66f6b89087dabf5d6c1116ec0f9547e4efdb31fbdc7", func := "lacquer/lacquerlaw01.TransferStreams", spec := "transferStreams", unfollowed := true, recurses := true, named := ["lacquer/transfer.predictors"], plainKeys := false, apart := false, laid := [("lacquer/transfer.predictors", laid_lacquer_transfer_predictors)] }
def TransferStreamsSaid : Prop := transferStreamsRow.holds Tryd.pinned (OpenSpec.ofChange transferStreamsSpec)

/-- ITS FALSE NEIGHBOUR: 'it returns false'. Refute it at one input. -/
def transferStreamsWrong : ChangeSpec := { name := "transferStreams", fn := fun _ => fun
  | [d1, d2] => { results := [.lit (.bool false)], args := [d1, d2] }
  | _ => none }
def TransferStreamsWrongFalsely : Prop := transferStreamsRow.holds Tryd.pinned (OpenSpec.ofChange transferStreamsWrong)

/-- 'lacquerlaw01.TransferTogether': WHATEVER THE INPUT: true; the input reads as it did. -/
def transferTogetherSpec : ChangeSpec := { name := "transferTogether", fn := fun _ => fun
  | [d1, d2, d3] => { results := [.lit (.bool true)], args := [d1, d2, d3] }
  | _ => none }
def transferTogetherRow : OpenClaim := { program := "ytmeddnpahkigeaadoor", sum := "036c596dcd88593fec5ca66f6b89087dabf5d6c1116ec0f9547e4efdb31fbdc7", func := "lacquer/lacquerlaw01.TransferTogether", spec := "transferTogether", unfollowed := true, recurses := true, named := ["lacquer/transfer.predictors"], plainKeys := false, apart := false, laid := [("lacquer/transfer.predictors", laid_lacquer_transfer_predictors)] }
def TransferTogetherSaid : Prop := transferTogetherRow.holds Tryd.pinned (OpenSpec.ofChange transferTogetherSpec)

/-- ITS FALSE NEIGHBOUR: 'it returns false'. Refute it at one input. -/
def transferTogetherWrong : ChangeSpec := { name := "transferTogether", fn := fun _ => fun
  | [d1, d2, d3] => { results := [.lit (.bool false)], args := [d1, d2, d3] }
  | _ => none }
def TransferTogetherWrongFalsely : Prop := transferTogetherRow.holds Tryd.pinned (OpenSpec.ofChange transferTogetherWrong)

/- THE SECOND FORM. 'bulk': how many values and letters a reading holds, each counted each time it is reached (what is shared counts as often as it is met; a slice's spare places count too). A statement '..UptoSaid' is the law's where the arguments, and the package variables that the reading takes, are together of bulk at most 1048576: NARROWER than '..Said'. Prove '..Said' where nothing that the law and all that it calls make is longer than what came in: it says more and counts as full. Else prove '..UptoSaid'. A law counts once. -/
mutual
def uptoBulk {H : Type} : DataW H → Nat
  | .lit (.string bytes) => bytes.length + 1
  | .lit _ => 1
  | .nil => 1
  | .ptr d => uptoBulk d + 1
  | .slice elems spare => uptoBulkAll elems + uptoBulkAll spare + 1
  | .agg parts => uptoBulkAll parts + 1
  | .iface _ d => uptoBulk d + 1
  | .map entries => uptoBulkEntries entries + 1
  | .held _ => 1
def uptoBulkAll {H : Type} : List (DataW H) → Nat
  | [] => 0
  | d :: r => uptoBulk d + uptoBulkAll r
def uptoBulkEntries {H : Type} : List (Lit × DataW H) → Nat
  | [] => 0
  | x :: r => uptoBulkEntry x + uptoBulkEntries r
def uptoBulkEntry {H : Type} : Lit × DataW H → Nat
  | (.string bytes, d) => bytes.length + uptoBulk d + 1
  | (_, d) => uptoBulk d + 1
 end
def uptoSmall : (H : Type) → List (DataW H) → Bool := fun _ ds => decide (uptoBulkAll ds ≤ 1048576)
def OpenSpec.upto (s : _root_.Go.ChangeSpec) : _root_.Go.OpenSpec := { _root_.Go.OpenSpec.ofChange s with cond := some uptoSmall }

/-- 'lacquerlaw01.TransferCuts', WHERE WHAT IT READS IS OF BULK AT MOST 1048576: true; the input reads as it did. -/
def transferCutsUptoRow : OpenClaim := { program := "ytmeddnpahkigeaadoor", sum := "036c596dcd88593fec5ca66f6b89087dabf5d6c1116ec0f9547e4efdb31fbdc7", func := "lacquer/lacquerlaw01.TransferCuts", spec := "transferCuts", unfollowed := true, recurses := true, named := ["lacquer/transfer.predictors"], plainKeys := false, apart := false, laid := [("lacquer/transfer.predictors", laid_lacquer_transfer_predictors)], narrowed := true }
def TransferCutsUptoSaid : Prop := transferCutsUptoRow.holds Tryd.pinned (OpenSpec.upto transferCutsSpec)

/-- 'lacquerlaw01.TransferParities', WHERE WHAT IT READS IS OF BULK AT MOST 1048576: true; the input reads as it did. -/
def transferParitiesUptoRow : OpenClaim := { program := "ytmeddnpahkigeaadoor", sum := "036c596dcd88593fec5ca66f6b89087dabf5d6c1116ec0f9547e4efdb31fbdc7", func := "lacquer/lacquerlaw01.TransferParities", spec := "transferParities", unfollowed := true, recurses := true, named := ["lacquer/transfer.predictors"], plainKeys := false, apart := false, laid := [("lacquer/transfer.predictors", laid_lacquer_transfer_predictors)], narrowed := true }
def TransferParitiesUptoSaid : Prop := transferParitiesUptoRow.holds Tryd.pinned (OpenSpec.upto transferParitiesSpec)

/-- 'lacquerlaw01.TransferStreams', WHERE WHAT IT READS IS OF BULK AT MOST 1048576: true; the input reads as it did. -/
def transferStreamsUptoRow : OpenClaim := { program := "ytmeddnpahkigeaadoor", sum := "036c596dcd88593fec5ca66f6b89087dabf5d6c1116ec0f9547e4efdb31fbdc7", func := "lacquer/lacquerlaw01.TransferStreams", spec := "transferStreams", unfollowed := true, recurses := true, named := ["lacquer/transfer.predictors"], plainKeys := false, apart := false, laid := [("lacquer/transfer.predictors", laid_lacquer_transfer_predictors)], narrowed := true }
def TransferStreamsUptoSaid : Prop := transferStreamsUptoRow.holds Tryd.pinned (OpenSpec.upto transferStreamsSpec)

/-- 'lacquerlaw01.TransferTogether', WHERE WHAT IT READS IS OF BULK AT MOST 1048576: true; the input reads as it did. -/
def transferTogetherUptoRow : OpenClaim := { program := "ytmeddnpahkigeaadoor", sum := "036c596dcd88593fec5ca66f6b89087dabf5d6c1116ec0f9547e4efdb31fbdc7", func := "lacquer/lacquerlaw01.TransferTogether", spec := "transferTogether", unfollowed := true, recurses := true, named := ["lacquer/transfer.predictors"], plainKeys := false, apart := false, laid := [("lacquer/transfer.predictors", laid_lacquer_transfer_predictors)], narrowed := true }
def TransferTogetherUptoSaid : Prop := transferTogetherUptoRow.holds Tryd.pinned (OpenSpec.upto transferTogetherSpec)

end Rows
end Go.Proofs.YtmeddnpahkigeaaDoor
