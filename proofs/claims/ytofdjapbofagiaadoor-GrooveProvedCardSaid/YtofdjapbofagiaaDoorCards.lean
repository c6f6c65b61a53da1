/-
  DERIVED. GIVEN WITH THE SEED: THE CARDS: each row of YtofdjapbofagiaaDoorRows.lean that lists a variable, with what it lists TIED to the program's text (the seventh form; the later family's looks); each row that meets fmt, with fmt's text TOLD by the authors' own Lean function (tested against real Go, not proved from fmt's source: count such statements apart). THE CARD IS WHAT COUNTS. Prove the row's statement (the work); the ties are given (YtofdjapbofagiaaDoorTie.lean); close each card by the builder's one call (the guide's Derived/Test/ToyasCard.lean, 'card_holds'). Laid BY PROGRAM, IN A SANDBOX (cutbox-door.mjs). By AI agents, Wed Nov 11 2026. No macro, syntax, notation, axiom, sorry.
-/
import Derived.Test.YtofdjapbofagiaaDoorRows
import GoSem.ClaimSeven
namespace Go.Proofs.YtofdjapbofagiaaDoor
namespace Rows

/-- THE TIED CARD OF 'lacquerlaw02.GrooveRings'. -/
def grooveRingsCard : Claim7 := { stood := { row := grooveRingsRow, standIns := [], harness := (true, "df7dcc5440afbf8eb4004765042e003ee2f49f1a9489e658b5f2c5fda2796c1e"), looks := false }, kinds := [], alts := [], laidByText := true, laidKinds := [.data], laidTests := true, laidLooks := .later }
def GrooveRingsCardSaid : Prop := Claim7.holds Tryd.pinned (.plain (OpenSpec.ofChange grooveRingsSpec)) grooveRingsCard

/-- THE TIED CARD OF 'lacquerlaw02.GrooveCosts'. -/
def grooveCostsCard : Claim7 := { stood := { row := grooveCostsRow, standIns := [], harness := (true, "df7dcc5440afbf8eb4004765042e003ee2f49f1a9489e658b5f2c5fda2796c1e"), looks := false }, kinds := [], alts := [], laidByText := true, laidKinds := [.data], laidTests := true, laidLooks := .later }
def GrooveCostsCardSaid : Prop := Claim7.holds Tryd.pinned (.plain (OpenSpec.ofChange grooveCostsSpec)) grooveCostsCard

/-- THE TIED CARD OF 'lacquerlaw02.GroovePaths'. -/
def groovePathsCard : Claim7 := { stood := { row := groovePathsRow, standIns := [], harness := (true, "df7dcc5440afbf8eb4004765042e003ee2f49f1a9489e658b5f2c5fda2796c1e"), looks := false }, kinds := [], alts := [], laidByText := true, laidKinds := [.data], laidTests := true, laidLooks := .later }
def GroovePathsCardSaid : Prop := Claim7.holds Tryd.pinned (.plain (OpenSpec.ofChange groovePathsSpec)) groovePathsCard

/-- THE TIED CARD OF 'lacquerlaw02.GrooveProved'. -/
def grooveProvedCard : Claim7 := { stood := { row := grooveProvedRow, standIns := [], harness := (true, "df7dcc5440afbf8eb4004765042e003ee2f49f1a9489e658b5f2c5fda2796c1e"), looks := false }, kinds := [], alts := [], laidByText := true, laidKinds := [.data], laidTests := true, laidLooks := .later }
def GrooveProvedCardSaid : Prop := Claim7.holds Tryd.pinned (.plain (OpenSpec.ofChange grooveProvedSpec)) grooveProvedCard

/-- THE TIED CARD OF 'lacquerlaw02.GroovePrices'. -/
def groovePricesCard : Claim7 := { stood := { row := groovePricesRow, standIns := [], harness := (true, "df7dcc5440afbf8eb4004765042e003ee2f49f1a9489e658b5f2c5fda2796c1e"), looks := false }, kinds := [], alts := [], laidByText := true, laidKinds := [.data], laidTests := true, laidLooks := .later }
def GroovePricesCardSaid : Prop := Claim7.holds Tryd.pinned (.plain (OpenSpec.ofChange groovePricesSpec)) groovePricesCard

/-- THE SECOND FORM's CARD OF 'lacquerlaw02.GrooveRings'. -/
def grooveRingsUptoCard : Claim7 := { stood := { row := grooveRingsUptoRow, standIns := [], harness := (true, "df7dcc5440afbf8eb4004765042e003ee2f49f1a9489e658b5f2c5fda2796c1e"), looks := false }, kinds := [], alts := [], laidByText := true, laidKinds := [.data], laidTests := true, laidLooks := .later }
def GrooveRingsUptoCardSaid : Prop := Claim7.holds Tryd.pinned (.plain (OpenSpec.upto grooveRingsSpec)) grooveRingsUptoCard

/-- THE SECOND FORM's CARD OF 'lacquerlaw02.GrooveCosts'. -/
def grooveCostsUptoCard : Claim7 := { stood := { row := grooveCostsUptoRow, standIns := [], harness := (true, "df7dcc5440afbf8eb4004765042e003ee2f49f1a9489e658b5f2c5fda2796c1e"), looks := false }, kinds := [], alts := [], laidByText := true, laidKinds := [.data], laidTests := true, laidLooks := .later }
def GrooveCostsUptoCardSaid : Prop := Claim7.holds Tryd.pinned (.plain (OpenSpec.upto grooveCostsSpec)) grooveCostsUptoCard

/-- THE SECOND FORM's CARD OF 'lacquerlaw02.GroovePaths'. -/
def groovePathsUptoCard : Claim7 := { stood := { row := groovePathsUptoRow, standIns := [], harness := (true, "df7dcc5440afbf8eb4004765042e003ee2f49f1a9489e658b5f2c5fda2796c1e"), looks := false }, kinds := [], alts := [], laidByText := true, laidKinds := [.data], laidTests := true, laidLooks := .later }
def GroovePathsUptoCardSaid : Prop := Claim7.holds Tryd.pinned (.plain (OpenSpec.upto groovePathsSpec)) groovePathsUptoCard

/-- THE SECOND FORM's CARD OF 'lacquerlaw02.GrooveProved'. -/
def grooveProvedUptoCard : Claim7 := { stood := { row := grooveProvedUptoRow, standIns := [], harness := (true, "df7dcc5440afbf8eb4004765042e003ee2f49f1a9489e658b5f2c5fda2796c1e"), looks := false }, kinds := [], alts := [], laidByText := true, laidKinds := [.data], laidTests := true, laidLooks := .later }
def GrooveProvedUptoCardSaid : Prop := Claim7.holds Tryd.pinned (.plain (OpenSpec.upto grooveProvedSpec)) grooveProvedUptoCard

/-- THE SECOND FORM's CARD OF 'lacquerlaw02.GroovePrices'. -/
def groovePricesUptoCard : Claim7 := { stood := { row := groovePricesUptoRow, standIns := [], harness := (true, "df7dcc5440afbf8eb4004765042e003ee2f49f1a9489e658b5f2c5fda2796c1e"), looks := false }, kinds := [], alts := [], laidByText := true, laidKinds := [.data], laidTests := true, laidLooks := .later }
def GroovePricesUptoCardSaid : Prop := Claim7.holds Tryd.pinned (.plain (OpenSpec.upto groovePricesSpec)) groovePricesUptoCard
end Rows
end Go.Proofs.YtofdjapbofagiaaDoor
