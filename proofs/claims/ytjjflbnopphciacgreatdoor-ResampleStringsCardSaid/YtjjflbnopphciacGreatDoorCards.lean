/-
  DERIVED. GIVEN WITH THE SEED: THE CARDS: each row of YtjjflbnopphciacGreatDoorRows.lean that lists a variable, with what it lists TIED to the program's text (the seventh form; the later family's looks); each row that meets fmt, with fmt's text TOLD by the authors' own Lean function (tested against real Go, not proved from fmt's source: count such statements apart). THE CARD IS WHAT COUNTS. Prove the row's statement (the work); the ties are given (YtjjflbnopphciacGreatDoorTie.lean); close each card by the builder's one call (the guide's Derived/Test/ToyasCard.lean, 'card_holds'). Laid BY PROGRAM, IN A SANDBOX (cutbox-door.mjs). By AI agents, Wed Nov 11 2026. No macro, syntax, notation, axiom, sorry.
-/
import Derived.Test.YtjjflbnopphciacGreatDoorRows
import GoSem.ClaimSeven
namespace Go.Proofs.YtjjflbnopphciacGreatDoor
namespace Rows

/-- THE TIED CARD OF 'lacquerlaw04.ResampleStrings'. -/
def resampleStringsCard : Claim7 := { stood := { row := resampleStringsRow, standIns := [], harness := (true, "369be2b34e0f0b4504688b100b64196ed39745b963f5bee9394d283a89009c2e"), looks := true }, kinds := [], alts := [], laidByText := true, laidKinds := [.data, .data, .data, .data, .sentinel, .sentinel, .data, .pinned], laidTests := true, laidLooks := .later }
def ResampleStringsCardSaid : Prop := Claim7.holds Tryz.pinned (.plain (OpenSpec.ofChange resampleStringsSpec)) resampleStringsCard

/-- THE SECOND FORM's CARD OF 'lacquerlaw04.ResampleStrings'. -/
def resampleStringsUptoCard : Claim7 := { stood := { row := resampleStringsUptoRow, standIns := [], harness := (true, "369be2b34e0f0b4504688b100b64196ed39745b963f5bee9394d283a89009c2e"), looks := true }, kinds := [], alts := [], laidByText := true, laidKinds := [.data, .data, .data, .data, .sentinel, .sentinel, .data, .pinned], laidTests := true, laidLooks := .later }
def ResampleStringsUptoCardSaid : Prop := Claim7.holds Tryz.pinned (.plain (OpenSpec.upto resampleStringsSpec)) resampleStringsUptoCard
end Rows
end Go.Proofs.YtjjflbnopphciacGreatDoor
