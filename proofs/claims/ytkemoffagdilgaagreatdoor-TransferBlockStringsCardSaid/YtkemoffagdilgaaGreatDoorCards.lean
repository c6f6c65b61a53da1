/-
  DERIVED. GIVEN WITH THE SEED: THE CARDS: each row of YtkemoffagdilgaaGreatDoorRows.lean that lists a variable, with what it lists TIED to the program's text (the seventh form; the later family's looks); each row that meets fmt, with fmt's text TOLD by the authors' own Lean function (tested against real Go, not proved from fmt's source: count such statements apart). THE CARD IS WHAT COUNTS. Prove the row's statement (the work); the ties are given (YtkemoffagdilgaaGreatDoorTie.lean); close each card by the builder's one call (the guide's Derived/Test/ToyasCard.lean, 'card_holds'). Laid BY PROGRAM, IN A SANDBOX (cutbox-door.mjs). By AI agents, Wed Nov 11 2026. No macro, syntax, notation, axiom, sorry.
-/
import Derived.Test.YtkemoffagdilgaaGreatDoorRows
import GoSem.ClaimSeven
namespace Go.Proofs.YtkemoffagdilgaaGreatDoor
namespace Rows

/-- THE TIED CARD OF 'lacquerlaw01.TransferBlockStrings'. -/
def transferBlockStringsCard : Claim7 := { stood := { row := transferBlockStringsRow, standIns := [], harness := (true, "105e8974e4acd73ddac587463f3a06c3e3a0ca469ca58d76660361f116a06e9d"), looks := false }, kinds := [], alts := [], laidByText := true, laidKinds := [.data, .data, .data, .data, .data, .pinned], laidTests := true, laidLooks := .later }
def TransferBlockStringsCardSaid : Prop := Claim7.holds Tryz.pinned (.plain (OpenSpec.ofChange transferBlockStringsSpec)) transferBlockStringsCard

/-- THE SECOND FORM's CARD OF 'lacquerlaw01.TransferBlockStrings'. -/
def transferBlockStringsUptoCard : Claim7 := { stood := { row := transferBlockStringsUptoRow, standIns := [], harness := (true, "105e8974e4acd73ddac587463f3a06c3e3a0ca469ca58d76660361f116a06e9d"), looks := false }, kinds := [], alts := [], laidByText := true, laidKinds := [.data, .data, .data, .data, .data, .pinned], laidTests := true, laidLooks := .later }
def TransferBlockStringsUptoCardSaid : Prop := Claim7.holds Tryz.pinned (.plain (OpenSpec.upto transferBlockStringsSpec)) transferBlockStringsUptoCard
end Rows
end Go.Proofs.YtkemoffagdilgaaGreatDoor
