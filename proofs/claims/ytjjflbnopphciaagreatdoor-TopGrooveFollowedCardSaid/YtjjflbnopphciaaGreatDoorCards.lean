/-
  DERIVED. GIVEN WITH THE SEED: THE CARDS: each row of YtjjflbnopphciaaGreatDoorRows.lean that lists a variable, with what it lists TIED to the program's text (the seventh form; the later family's looks); each row that meets fmt, with fmt's text TOLD by the authors' own Lean function (tested against real Go, not proved from fmt's source: count such statements apart). THE CARD IS WHAT COUNTS. Prove the row's statement (the work); the ties are given (YtjjflbnopphciaaGreatDoorTie.lean); close each card by the builder's one call (the guide's Derived/Test/ToyasCard.lean, 'card_holds'). Laid BY PROGRAM, IN A SANDBOX (cutbox-door.mjs). By AI agents, Wed Nov 11 2026. No macro, syntax, notation, axiom, sorry.
-/
import Derived.Test.YtjjflbnopphciaaGreatDoorRows
import GoSem.ClaimSeven
namespace Go.Proofs.YtjjflbnopphciaaGreatDoor
namespace Rows

/-- THE TIED CARD OF 'lacquerlaw02.GrooveStrings'. -/
def grooveStringsCard : Claim7 := { stood := { row := grooveStringsRow, standIns := [], harness := (true, "94a5d3855712791b22c5a56b3b3e8971417a378bf9648bdb80e7b3cef27e972b"), looks := true }, kinds := [], alts := [], laidByText := true, laidKinds := [.data, .data, .data, .data, .sentinel, .sentinel, .data, .pinned], laidTests := true, laidLooks := .later }
def GrooveStringsCardSaid : Prop := Claim7.holds Tryz.pinned (.plain (OpenSpec.ofChange grooveStringsSpec)) grooveStringsCard

/-- THE TIED CARD OF 'lacquertop.TopGrooveFollowed'. -/
def topGrooveFollowedCard : Claim7 := { stood := { row := topGrooveFollowedRow, standIns := [], harness := (true, "94a5d3855712791b22c5a56b3b3e8971417a378bf9648bdb80e7b3cef27e972b"), looks := true }, kinds := [], alts := [], laidByText := true, laidKinds := [.data, .data, .data, .data, .sentinel, .sentinel, .data, .pinned], laidTests := true, laidLooks := .later }
def TopGrooveFollowedCardSaid : Prop := Claim7.holds Tryz.pinned (.plain (OpenSpec.ofChange topGrooveFollowedSpec)) topGrooveFollowedCard

/-- THE SECOND FORM's CARD OF 'lacquerlaw02.GrooveStrings'. -/
def grooveStringsUptoCard : Claim7 := { stood := { row := grooveStringsUptoRow, standIns := [], harness := (true, "94a5d3855712791b22c5a56b3b3e8971417a378bf9648bdb80e7b3cef27e972b"), looks := true }, kinds := [], alts := [], laidByText := true, laidKinds := [.data, .data, .data, .data, .sentinel, .sentinel, .data, .pinned], laidTests := true, laidLooks := .later }
def GrooveStringsUptoCardSaid : Prop := Claim7.holds Tryz.pinned (.plain (OpenSpec.upto grooveStringsSpec)) grooveStringsUptoCard

/-- THE SECOND FORM's CARD OF 'lacquertop.TopGrooveFollowed'. -/
def topGrooveFollowedUptoCard : Claim7 := { stood := { row := topGrooveFollowedUptoRow, standIns := [], harness := (true, "94a5d3855712791b22c5a56b3b3e8971417a378bf9648bdb80e7b3cef27e972b"), looks := true }, kinds := [], alts := [], laidByText := true, laidKinds := [.data, .data, .data, .data, .sentinel, .sentinel, .data, .pinned], laidTests := true, laidLooks := .later }
def TopGrooveFollowedUptoCardSaid : Prop := Claim7.holds Tryz.pinned (.plain (OpenSpec.upto topGrooveFollowedSpec)) topGrooveFollowedUptoCard
end Rows
end Go.Proofs.YtjjflbnopphciaaGreatDoor
