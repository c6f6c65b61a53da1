/-
  DERIVED. GIVEN WITH THE SEED: THE CARDS: each row of YtkemoffagdilgaaDoorRows.lean that lists a variable, with what it lists TIED to the program's text (the seventh form; the later family's looks); each row that meets fmt, with fmt's text TOLD by the authors' own Lean function (tested against real Go, not proved from fmt's source: count such statements apart). THE CARD IS WHAT COUNTS. Prove the row's statement (the work); the ties are given (YtkemoffagdilgaaDoorTie.lean); close each card by the builder's one call (the guide's Derived/Test/ToyasCard.lean, 'card_holds'). Laid BY PROGRAM, IN A SANDBOX (cutbox-door.mjs). By AI agents, Wed Nov 11 2026. No macro, syntax, notation, axiom, sorry.
-/
import Derived.Test.YtkemoffagdilgaaDoorRows
import GoSem.ClaimSeven
namespace Go.Proofs.YtkemoffagdilgaaDoor
namespace Rows

/-- THE TIED CARD OF 'lacquerlaw01.TransferCarrierStrings'. -/
def transferCarrierStringsCard : Claim7 := { stood := { row := transferCarrierStringsRow, standIns := [], harness := (true, "37ec64c2e0ad1b35efc12e4fc866a8711b89f79ff20c03df1d3ae8bcb96e2b29"), looks := false }, kinds := [], alts := [], laidByText := true, laidKinds := [.data, .data, .data, .data, .data, .data, .pinned], laidTests := true, laidLooks := .later }
def TransferCarrierStringsCardSaid : Prop := Claim7.holds Tryd.pinned (.plain (OpenSpec.ofChange transferCarrierStringsSpec)) transferCarrierStringsCard

/-- THE SECOND FORM's CARD OF 'lacquerlaw01.TransferCarrierStrings'. -/
def transferCarrierStringsUptoCard : Claim7 := { stood := { row := transferCarrierStringsUptoRow, standIns := [], harness := (true, "37ec64c2e0ad1b35efc12e4fc866a8711b89f79ff20c03df1d3ae8bcb96e2b29"), looks := false }, kinds := [], alts := [], laidByText := true, laidKinds := [.data, .data, .data, .data, .data, .data, .pinned], laidTests := true, laidLooks := .later }
def TransferCarrierStringsUptoCardSaid : Prop := Claim7.holds Tryd.pinned (.plain (OpenSpec.upto transferCarrierStringsSpec)) transferCarrierStringsUptoCard
end Rows
end Go.Proofs.YtkemoffagdilgaaDoor
