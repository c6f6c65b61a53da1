/-
  DERIVED. GIVEN WITH THE SEED: THE CARDS: each row of YtpkjkegcdddimaaDoorRows.lean that lists a variable, with what it lists TIED to the program's text (the seventh form; the later family's looks); each row that meets fmt, with fmt's text TOLD by the authors' own Lean function (tested against real Go, not proved from fmt's source: count such statements apart). THE CARD IS WHAT COUNTS. Prove the row's statement (the work); the ties are given (YtpkjkegcdddimaaDoorTie.lean); close each card by the builder's one call (the guide's Derived/Test/ToyasCard.lean, 'card_holds'). Laid BY PROGRAM, IN A SANDBOX (cutbox-door.mjs). By AI agents, Wed Nov 11 2026. No macro, syntax, notation, axiom, sorry.
-/
import Derived.Test.YtpkjkegcdddimaaDoorRows
import GoSem.ClaimSeven
namespace Go.Proofs.YtpkjkegcdddimaaDoor
namespace Rows

/-- THE TIED CARD OF 'lacquerlaw02.GrooveTurned'. -/
def grooveTurnedCard : Claim7 := { stood := { row := grooveTurnedRow, standIns := [], harness := (true, "e751a9028c16f5406aa12694aa0fb3ce6b659d08be5c4e819bbfc8c08d672778"), looks := false }, kinds := [], alts := [], laidByText := true, laidKinds := [.data], laidTests := true, laidLooks := .later }
def GrooveTurnedCardSaid : Prop := Claim7.holds Tryd.pinned (.plain (OpenSpec.ofChange grooveTurnedSpec)) grooveTurnedCard

/-- THE TIED CARD OF 'lacquerlaw02.GrooveCenters'. -/
def grooveCentersCard : Claim7 := { stood := { row := grooveCentersRow, standIns := [], harness := (true, "e751a9028c16f5406aa12694aa0fb3ce6b659d08be5c4e819bbfc8c08d672778"), looks := false }, kinds := [], alts := [], laidByText := true, laidKinds := [.data], laidTests := true, laidLooks := .later }
def GrooveCentersCardSaid : Prop := Claim7.holds Tryd.pinned (.plain (OpenSpec.ofChange grooveCentersSpec)) grooveCentersCard

/-- THE TIED CARD OF 'lacquerlaw02.GrooveEnclosed'. -/
def grooveEnclosedCard : Claim7 := { stood := { row := grooveEnclosedRow, standIns := [], harness := (true, "e751a9028c16f5406aa12694aa0fb3ce6b659d08be5c4e819bbfc8c08d672778"), looks := false }, kinds := [], alts := [], laidByText := true, laidKinds := [.data], laidTests := true, laidLooks := .later }
def GrooveEnclosedCardSaid : Prop := Claim7.holds Tryd.pinned (.plain (OpenSpec.ofChange grooveEnclosedSpec)) grooveEnclosedCard

/-- THE TIED CARD OF 'lacquerlaw02.GroovePaths'. -/
def groovePathsCard : Claim7 := { stood := { row := groovePathsRow, standIns := [], harness := (true, "e751a9028c16f5406aa12694aa0fb3ce6b659d08be5c4e819bbfc8c08d672778"), looks := false }, kinds := [], alts := [], laidByText := true, laidKinds := [.data], laidTests := true, laidLooks := .later }
def GroovePathsCardSaid : Prop := Claim7.holds Tryd.pinned (.plain (OpenSpec.ofChange groovePathsSpec)) groovePathsCard

/-- THE SECOND FORM's CARD OF 'lacquerlaw02.GrooveTurned'. -/
def grooveTurnedUptoCard : Claim7 := { stood := { row := grooveTurnedUptoRow, standIns := [], harness := (true, "e751a9028c16f5406aa12694aa0fb3ce6b659d08be5c4e819bbfc8c08d672778"), looks := false }, kinds := [], alts := [], laidByText := true, laidKinds := [.data], laidTests := true, laidLooks := .later }
def GrooveTurnedUptoCardSaid : Prop := Claim7.holds Tryd.pinned (.plain (OpenSpec.upto grooveTurnedSpec)) grooveTurnedUptoCard

/-- THE SECOND FORM's CARD OF 'lacquerlaw02.GrooveCenters'. -/
def grooveCentersUptoCard : Claim7 := { stood := { row := grooveCentersUptoRow, standIns := [], harness := (true, "e751a9028c16f5406aa12694aa0fb3ce6b659d08be5c4e819bbfc8c08d672778"), looks := false }, kinds := [], alts := [], laidByText := true, laidKinds := [.data], laidTests := true, laidLooks := .later }
def GrooveCentersUptoCardSaid : Prop := Claim7.holds Tryd.pinned (.plain (OpenSpec.upto grooveCentersSpec)) grooveCentersUptoCard

/-- THE SECOND FORM's CARD OF 'lacquerlaw02.GrooveEnclosed'. -/
def grooveEnclosedUptoCard : Claim7 := { stood := { row := grooveEnclosedUptoRow, standIns := [], harness := (true, "e751a9028c16f5406aa12694aa0fb3ce6b659d08be5c4e819bbfc8c08d672778"), looks := false }, kinds := [], alts := [], laidByText := true, laidKinds := [.data], laidTests := true, laidLooks := .later }
def GrooveEnclosedUptoCardSaid : Prop := Claim7.holds Tryd.pinned (.plain (OpenSpec.upto grooveEnclosedSpec)) grooveEnclosedUptoCard

/-- THE SECOND FORM's CARD OF 'lacquerlaw02.GroovePaths'. -/
def groovePathsUptoCard : Claim7 := { stood := { row := groovePathsUptoRow, standIns := [], harness := (true, "e751a9028c16f5406aa12694aa0fb3ce6b659d08be5c4e819bbfc8c08d672778"), looks := false }, kinds := [], alts := [], laidByText := true, laidKinds := [.data], laidTests := true, laidLooks := .later }
def GroovePathsUptoCardSaid : Prop := Claim7.holds Tryd.pinned (.plain (OpenSpec.upto groovePathsSpec)) groovePathsUptoCard
end Rows
end Go.Proofs.YtpkjkegcdddimaaDoor
