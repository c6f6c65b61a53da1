/-
  DERIVED. GIVEN WITH THE SEED: THE CARDS: each row of YtmeddnpahkigeaaDoorRows.lean that lists a variable, with what it lists TIED to the program's text (the seventh form; the later family's looks); each row that meets fmt, with fmt's text TOLD by the authors' own Lean function (tested against real Go, not proved from fmt's source: count such statements apart). THE CARD IS WHAT COUNTS. Prove the row's statement (the work); the ties are given (YtmeddnpahkigeaaDoorTie.lean); close each card by the builder's one call (the guide's Derived/Test/ToyasCard.lean, 'card_holds'). Laid BY PROGRAM, IN A SANDBOX (cutbox-door.mjs). By AI agents, Wed Nov 11 2026. No macro, syntax, notation, axiom, sorry.
-/
import Derived.Test.YtmeddnpahkigeaaDoorRows
import GoSem.ClaimSeven
namespace Go.Proofs.YtmeddnpahkigeaaDoor
namespace Rows

/-- THE TIED CARD OF 'lacquerlaw01.TransferCuts'. -/
def transferCutsCard : Claim7 := { stood := { row := transferCutsRow, standIns := [], harness := (true, "5c2d93e279043285d528e514c119e4007a94fb3d9c082ceb0ca9b8e6fb764722"), looks := false }, kinds := [], alts := [], laidByText := true, laidKinds := [.data], laidTests := true, laidLooks := .later }
def TransferCutsCardSaid : Prop := Claim7.holds Tryd.pinned (.plain (OpenSpec.ofChange transferCutsSpec)) transferCutsCard

/-- THE TIED CARD OF 'lacquerlaw01.TransferParities'. -/
def transferParitiesCard : Claim7 := { stood := { row := transferParitiesRow, standIns := [], harness := (true, "5c2d93e279043285d528e514c119e4007a94fb3d9c082ceb0ca9b8e6fb764722"), looks := false }, kinds := [], alts := [], laidByText := true, laidKinds := [.data], laidTests := true, laidLooks := .later }
def TransferParitiesCardSaid : Prop := Claim7.holds Tryd.pinned (.plain (OpenSpec.ofChange transferParitiesSpec)) transferParitiesCard

/-- THE TIED CARD OF 'lacquerlaw01.TransferStreams'. -/
def transferStreamsCard : Claim7 := { stood := { row := transferStreamsRow, standIns := [], harness := (true, "5c2d93e279043285d528e514c119e4007a94fb3d9c082ceb0ca9b8e6fb764722"), looks := false }, kinds := [], alts := [], laidByText := true, laidKinds := [.data], laidTests := true, laidLooks := .later }
def TransferStreamsCardSaid : Prop := Claim7.holds Tryd.pinned (.plain (OpenSpec.ofChange transferStreamsSpec)) transferStreamsCard

/-- THE TIED CARD OF 'lacquerlaw01.TransferTogether'. -/
def transferTogetherCard : Claim7 := { stood := { row := transferTogetherRow, standIns := [], harness := (true, "5c2d93e279043285d528e514c119e4007a94fb3d9c082ceb0ca9b8e6fb764722"), looks := false }, kinds := [], alts := [], laidByText := true, laidKinds := [.data], laidTests := true, laidLooks := .later }
def TransferTogetherCardSaid : Prop := Claim7.holds Tryd.pinned (.plain (OpenSpec.ofChange transferTogetherSpec)) transferTogetherCard

/-- THE SECOND FORM's CARD OF 'lacquerlaw01.TransferCuts'. -/
def transferCutsUptoCard : Claim7 := { stood := { row := transferCutsUptoRow, standIns := [], harness := (true, "5c2d93e279043285d528e514c119e4007a94fb3d9c082ceb0ca9b8e6fb764722"), looks := false }, kinds := [], alts := [], laidByText := true, laidKinds := [.data], laidTests := true, laidLooks := .later }
def TransferCutsUptoCardSaid : Prop := Claim7.holds Tryd.pinned (.plain (OpenSpec.upto transferCutsSpec)) transferCutsUptoCard

/-- THE SECOND FORM's CARD OF 'lacquerlaw01.TransferParities'. -/
def transferParitiesUptoCard : Claim7 := { stood := { row := transferParitiesUptoRow, standIns := [], harness := (true, "5c2d93e279043285d528e514c119e4007a94fb3d9c082ceb0ca9b8e6fb764722"), looks := false }, kinds := [], alts := [], laidByText := true, laidKinds := [.data], laidTests := true, laidLooks := .later }
def TransferParitiesUptoCardSaid : Prop := Claim7.holds Tryd.pinned (.plain (OpenSpec.upto transferParitiesSpec)) transferParitiesUptoCard

/-- THE SECOND FORM's CARD OF 'lacquerlaw01.TransferStreams'. -/
def transferStreamsUptoCard : Claim7 := { stood := { row := transferStreamsUptoRow, standIns := [], harness := (true, "5c2d93e279043285d528e514c119e4007a94fb3d9c082ceb0ca9b8e6fb764722"), looks := false }, kinds := [], alts := [], laidByText := true, laidKinds := [.data], laidTests := true, laidLooks := .later }
def TransferStreamsUptoCardSaid : Prop := Claim7.holds Tryd.pinned (.plain (OpenSpec.upto transferStreamsSpec)) transferStreamsUptoCard

/-- THE SECOND FORM's CARD OF 'lacquerlaw01.TransferTogether'. -/
def transferTogetherUptoCard : Claim7 := { stood := { row := transferTogetherUptoRow, standIns := [], harness := (true, "5c2d93e279043285d528e514c119e4007a94fb3d9c082ceb0ca9b8e6fb764722"), looks := false }, kinds := [], alts := [], laidByText := true, laidKinds := [.data], laidTests := true, laidLooks := .later }
def TransferTogetherUptoCardSaid : Prop := Claim7.holds Tryd.pinned (.plain (OpenSpec.upto transferTogetherSpec)) transferTogetherUptoCard
end Rows
end Go.Proofs.YtmeddnpahkigeaaDoor
