/-
  DERIVED. GIVEN WITH THE SEED: THE CARDS: each row of YtjjflbnopphciabDoorRows.lean that lists a variable, with what it lists TIED to the program's text (the seventh form; the later family's looks); each row that meets fmt, with fmt's text TOLD by the authors' own Lean function (tested against real Go, not proved from fmt's source: count such statements apart). THE CARD IS WHAT COUNTS. Prove the row's statement (the work); the ties are given (YtjjflbnopphciabDoorTie.lean); close each card by the builder's one call (the guide's Derived/Test/ToyasCard.lean, 'card_holds'). Laid BY PROGRAM, IN A SANDBOX (cutbox-door.mjs). By AI agents, Wed Nov 11 2026. No macro, syntax, notation, axiom, sorry.
-/
import Derived.Test.YtjjflbnopphciabDoorRows
import GoSem.ClaimSeven
namespace Go.Proofs.YtjjflbnopphciabDoor
namespace Rows

/-- THE TIED CARD OF 'lacquerlaw01.TransferRestored'. -/
def transferRestoredCard : Claim7 := { stood := { row := transferRestoredRow, standIns := [], harness := (true, "29b90593494b6c2f7cd4615bec69584594b01d4ccdbfeb1653e0db9d5442e56c"), looks := false }, kinds := [], alts := [], laidByText := true, laidKinds := [.data], laidTests := true, laidLooks := .later }
def TransferRestoredCardSaid : Prop := Claim7.holds Tryd.pinned (.plain (OpenSpec.ofChange transferRestoredSpec)) transferRestoredCard

/-- THE TIED CARD OF 'lacquerlaw01.TransferGroups'. -/
def transferGroupsCard : Claim7 := { stood := { row := transferGroupsRow, standIns := [], harness := (true, "29b90593494b6c2f7cd4615bec69584594b01d4ccdbfeb1653e0db9d5442e56c"), looks := false }, kinds := [], alts := [], laidByText := true, laidKinds := [.data], laidTests := true, laidLooks := .later }
def TransferGroupsCardSaid : Prop := Claim7.holds Tryd.pinned (.plain (OpenSpec.ofChange transferGroupsSpec)) transferGroupsCard

/-- THE SECOND FORM's CARD OF 'lacquerlaw01.TransferRestored'. -/
def transferRestoredUptoCard : Claim7 := { stood := { row := transferRestoredUptoRow, standIns := [], harness := (true, "29b90593494b6c2f7cd4615bec69584594b01d4ccdbfeb1653e0db9d5442e56c"), looks := false }, kinds := [], alts := [], laidByText := true, laidKinds := [.data], laidTests := true, laidLooks := .later }
def TransferRestoredUptoCardSaid : Prop := Claim7.holds Tryd.pinned (.plain (OpenSpec.upto transferRestoredSpec)) transferRestoredUptoCard

/-- THE SECOND FORM's CARD OF 'lacquerlaw01.TransferGroups'. -/
def transferGroupsUptoCard : Claim7 := { stood := { row := transferGroupsUptoRow, standIns := [], harness := (true, "29b90593494b6c2f7cd4615bec69584594b01d4ccdbfeb1653e0db9d5442e56c"), looks := false }, kinds := [], alts := [], laidByText := true, laidKinds := [.data], laidTests := true, laidLooks := .later }
def TransferGroupsUptoCardSaid : Prop := Claim7.holds Tryd.pinned (.plain (OpenSpec.upto transferGroupsSpec)) transferGroupsUptoCard
end Rows
end Go.Proofs.YtjjflbnopphciabDoor
