/-
  DERIVED. GIVEN WITH THE SEED: THE CARDS: each row of YtnmfeonagigkeaaDoorRows.lean that lists a variable, with what it lists TIED to the program's text (the seventh form; the later family's looks); each row that meets fmt, with fmt's text TOLD by the authors' own Lean function (tested against real Go, not proved from fmt's source: count such statements apart). THE CARD IS WHAT COUNTS. Prove the row's statement (the work); the ties are given (YtnmfeonagigkeaaDoorTie.lean); close each card by the builder's one call (the guide's Derived/Test/ToyasCard.lean, 'card_holds'). Laid BY PROGRAM, IN A SANDBOX (cutbox-door.mjs). By AI agents, Wed Nov 11 2026. No macro, syntax, notation, axiom, sorry.
-/
import Derived.Test.YtnmfeonagigkeaaDoorRows
import GoSem.ClaimSeven
namespace Go.Proofs.YtnmfeonagigkeaaDoor
namespace Rows

/-- THE TIED CARD OF 'lacquerlaw02.GrooveRings'. -/
def grooveRingsCard : Claim7 := { stood := { row := grooveRingsRow, standIns := [], harness := (true, "6ea3f8440ea3ac6238deffc4f6688ca351dbbde35e5c420dfe75170872351b09"), looks := false }, kinds := [], alts := [], laidByText := true, laidKinds := [.data], laidTests := true, laidLooks := .later }
def GrooveRingsCardSaid : Prop := Claim7.holds Tryd.pinned (.plain (OpenSpec.ofChange grooveRingsSpec)) grooveRingsCard

/-- THE TIED CARD OF 'lacquerlaw02.GroovePaths'. -/
def groovePathsCard : Claim7 := { stood := { row := groovePathsRow, standIns := [], harness := (true, "6ea3f8440ea3ac6238deffc4f6688ca351dbbde35e5c420dfe75170872351b09"), looks := false }, kinds := [], alts := [], laidByText := true, laidKinds := [.data], laidTests := true, laidLooks := .later }
def GroovePathsCardSaid : Prop := Claim7.holds Tryd.pinned (.plain (OpenSpec.ofChange groovePathsSpec)) groovePathsCard

/-- THE TIED CARD OF 'lacquerlaw02.GrooveBridges'. -/
def grooveBridgesCard : Claim7 := { stood := { row := grooveBridgesRow, standIns := [], harness := (true, "6ea3f8440ea3ac6238deffc4f6688ca351dbbde35e5c420dfe75170872351b09"), looks := false }, kinds := [], alts := [], laidByText := true, laidKinds := [.data], laidTests := true, laidLooks := .later }
def GrooveBridgesCardSaid : Prop := Claim7.holds Tryd.pinned (.plain (OpenSpec.ofChange grooveBridgesSpec)) grooveBridgesCard

/-- THE TIED CARD OF 'lacquerlaw02.GrooveStraight'. -/
def grooveStraightCard : Claim7 := { stood := { row := grooveStraightRow, standIns := [], harness := (true, "6ea3f8440ea3ac6238deffc4f6688ca351dbbde35e5c420dfe75170872351b09"), looks := false }, kinds := [], alts := [], laidByText := true, laidKinds := [.data], laidTests := true, laidLooks := .later }
def GrooveStraightCardSaid : Prop := Claim7.holds Tryd.pinned (.plain (OpenSpec.ofChange grooveStraightSpec)) grooveStraightCard

/-- THE SECOND FORM's CARD OF 'lacquerlaw02.GrooveRings'. -/
def grooveRingsUptoCard : Claim7 := { stood := { row := grooveRingsUptoRow, standIns := [], harness := (true, "6ea3f8440ea3ac6238deffc4f6688ca351dbbde35e5c420dfe75170872351b09"), looks := false }, kinds := [], alts := [], laidByText := true, laidKinds := [.data], laidTests := true, laidLooks := .later }
def GrooveRingsUptoCardSaid : Prop := Claim7.holds Tryd.pinned (.plain (OpenSpec.upto grooveRingsSpec)) grooveRingsUptoCard

/-- THE SECOND FORM's CARD OF 'lacquerlaw02.GroovePaths'. -/
def groovePathsUptoCard : Claim7 := { stood := { row := groovePathsUptoRow, standIns := [], harness := (true, "6ea3f8440ea3ac6238deffc4f6688ca351dbbde35e5c420dfe75170872351b09"), looks := false }, kinds := [], alts := [], laidByText := true, laidKinds := [.data], laidTests := true, laidLooks := .later }
def GroovePathsUptoCardSaid : Prop := Claim7.holds Tryd.pinned (.plain (OpenSpec.upto groovePathsSpec)) groovePathsUptoCard

/-- THE SECOND FORM's CARD OF 'lacquerlaw02.GrooveBridges'. -/
def grooveBridgesUptoCard : Claim7 := { stood := { row := grooveBridgesUptoRow, standIns := [], harness := (true, "6ea3f8440ea3ac6238deffc4f6688ca351dbbde35e5c420dfe75170872351b09"), looks := false }, kinds := [], alts := [], laidByText := true, laidKinds := [.data], laidTests := true, laidLooks := .later }
def GrooveBridgesUptoCardSaid : Prop := Claim7.holds Tryd.pinned (.plain (OpenSpec.upto grooveBridgesSpec)) grooveBridgesUptoCard

/-- THE SECOND FORM's CARD OF 'lacquerlaw02.GrooveStraight'. -/
def grooveStraightUptoCard : Claim7 := { stood := { row := grooveStraightUptoRow, standIns := [], harness := (true, "6ea3f8440ea3ac6238deffc4f6688ca351dbbde35e5c420dfe75170872351b09"), looks := false }, kinds := [], alts := [], laidByText := true, laidKinds := [.data], laidTests := true, laidLooks := .later }
def GrooveStraightUptoCardSaid : Prop := Claim7.holds Tryd.pinned (.plain (OpenSpec.upto grooveStraightSpec)) grooveStraightUptoCard
end Rows
end Go.Proofs.YtnmfeonagigkeaaDoor
