/-
  DERIVED. GIVEN WITH THE SEED: THE CARDS: each row of YtepjnkmmielamaaDoorRows.lean that lists a variable, with what it lists TIED to the program's text (the seventh form; the later family's looks); each row that meets fmt, with fmt's text TOLD by the authors' own Lean function (tested against real Go, not proved from fmt's source: count such statements apart). THE CARD IS WHAT COUNTS. Prove the row's statement (the work); the ties are given (YtepjnkmmielamaaDoorTie.lean); close each card by the builder's one call (the guide's Derived/Test/ToyasCard.lean, 'card_holds'). Laid BY PROGRAM, IN A SANDBOX (cutbox-door.mjs). By AI agents, Wed Nov 11 2026. No macro, syntax, notation, axiom, sorry.
-/
import Derived.Test.YtepjnkmmielamaaDoorRows
import GoSem.ClaimSeven
namespace Go.Proofs.YtepjnkmmielamaaDoor
namespace Rows

/-- THE TIED CARD OF 'lacquerlaw01.TransferCarriers'. -/
def transferCarriersCard : Claim7 := { stood := { row := transferCarriersRow, standIns := [], harness := (true, "6bfb89a0d1e7406e6562137d8686a9a2d4d3eab6295133ef0dc57be2bbb5ec3a"), looks := false }, kinds := [], alts := [], laidByText := true, laidKinds := [.data], laidTests := true, laidLooks := .later }
def TransferCarriersCardSaid : Prop := Claim7.holds Tryd.pinned (.plain (OpenSpec.ofChange transferCarriersSpec)) transferCarriersCard

/-- THE TIED CARD OF 'lacquerlaw01.TransferBlocks'. -/
def transferBlocksCard : Claim7 := { stood := { row := transferBlocksRow, standIns := [], harness := (true, "6bfb89a0d1e7406e6562137d8686a9a2d4d3eab6295133ef0dc57be2bbb5ec3a"), looks := false }, kinds := [], alts := [], laidByText := true, laidKinds := [.data], laidTests := true, laidLooks := .later }
def TransferBlocksCardSaid : Prop := Claim7.holds Tryd.pinned (.plain (OpenSpec.ofChange transferBlocksSpec)) transferBlocksCard

/-- THE TIED CARD OF 'lacquerlaw01.TransferDamage'. -/
def transferDamageCard : Claim7 := { stood := { row := transferDamageRow, standIns := [], harness := (true, "6bfb89a0d1e7406e6562137d8686a9a2d4d3eab6295133ef0dc57be2bbb5ec3a"), looks := false }, kinds := [], alts := [], laidByText := true, laidKinds := [.data], laidTests := true, laidLooks := .later }
def TransferDamageCardSaid : Prop := Claim7.holds Tryd.pinned (.plain (OpenSpec.ofChange transferDamageSpec)) transferDamageCard

/-- THE TIED CARD OF 'lacquerlaw01.TransferStreams'. -/
def transferStreamsCard : Claim7 := { stood := { row := transferStreamsRow, standIns := [], harness := (true, "6bfb89a0d1e7406e6562137d8686a9a2d4d3eab6295133ef0dc57be2bbb5ec3a"), looks := false }, kinds := [], alts := [], laidByText := true, laidKinds := [.data], laidTests := true, laidLooks := .later }
def TransferStreamsCardSaid : Prop := Claim7.holds Tryd.pinned (.plain (OpenSpec.ofChange transferStreamsSpec)) transferStreamsCard

/-- THE TIED CARD OF 'lacquerlaw01.TransferCuts'. -/
def transferCutsCard : Claim7 := { stood := { row := transferCutsRow, standIns := [], harness := (true, "6bfb89a0d1e7406e6562137d8686a9a2d4d3eab6295133ef0dc57be2bbb5ec3a"), looks := false }, kinds := [], alts := [], laidByText := true, laidKinds := [.data], laidTests := true, laidLooks := .later }
def TransferCutsCardSaid : Prop := Claim7.holds Tryd.pinned (.plain (OpenSpec.ofChange transferCutsSpec)) transferCutsCard

/-- THE TIED CARD OF 'lacquerlaw01.TransferTogether'. -/
def transferTogetherCard : Claim7 := { stood := { row := transferTogetherRow, standIns := [], harness := (true, "6bfb89a0d1e7406e6562137d8686a9a2d4d3eab6295133ef0dc57be2bbb5ec3a"), looks := false }, kinds := [], alts := [], laidByText := true, laidKinds := [.data], laidTests := true, laidLooks := .later }
def TransferTogetherCardSaid : Prop := Claim7.holds Tryd.pinned (.plain (OpenSpec.ofChange transferTogetherSpec)) transferTogetherCard

/-- THE TIED CARD OF 'lacquerlaw01.TransferPacks'. -/
def transferPacksCard : Claim7 := { stood := { row := transferPacksRow, standIns := [], harness := (true, "6bfb89a0d1e7406e6562137d8686a9a2d4d3eab6295133ef0dc57be2bbb5ec3a"), looks := false }, kinds := [], alts := [], laidByText := true, laidKinds := [.data], laidTests := true, laidLooks := .later }
def TransferPacksCardSaid : Prop := Claim7.holds Tryd.pinned (.plain (OpenSpec.ofChange transferPacksSpec)) transferPacksCard

/-- THE TIED CARD OF 'lacquerlaw01.TransferUnpacks'. -/
def transferUnpacksCard : Claim7 := { stood := { row := transferUnpacksRow, standIns := [], harness := (true, "6bfb89a0d1e7406e6562137d8686a9a2d4d3eab6295133ef0dc57be2bbb5ec3a"), looks := false }, kinds := [], alts := [], laidByText := true, laidKinds := [.data], laidTests := true, laidLooks := .later }
def TransferUnpacksCardSaid : Prop := Claim7.holds Tryd.pinned (.plain (OpenSpec.ofChange transferUnpacksSpec)) transferUnpacksCard

/-- THE TIED CARD OF 'lacquerlaw01.TransferBitByBit'. -/
def transferBitByBitCard : Claim7 := { stood := { row := transferBitByBitRow, standIns := [], harness := (true, "6bfb89a0d1e7406e6562137d8686a9a2d4d3eab6295133ef0dc57be2bbb5ec3a"), looks := false }, kinds := [], alts := [], laidByText := true, laidKinds := [.data], laidTests := true, laidLooks := .later }
def TransferBitByBitCardSaid : Prop := Claim7.holds Tryd.pinned (.plain (OpenSpec.ofChange transferBitByBitSpec)) transferBitByBitCard

/-- THE TIED CARD OF 'lacquerlaw01.TransferParities'. -/
def transferParitiesCard : Claim7 := { stood := { row := transferParitiesRow, standIns := [], harness := (true, "6bfb89a0d1e7406e6562137d8686a9a2d4d3eab6295133ef0dc57be2bbb5ec3a"), looks := false }, kinds := [], alts := [], laidByText := true, laidKinds := [.data], laidTests := true, laidLooks := .later }
def TransferParitiesCardSaid : Prop := Claim7.holds Tryd.pinned (.plain (OpenSpec.ofChange transferParitiesSpec)) transferParitiesCard

/-- THE TIED CARD OF 'lacquerlaw01.TransferGroups'. -/
def transferGroupsCard : Claim7 := { stood := { row := transferGroupsRow, standIns := [], harness := (true, "6bfb89a0d1e7406e6562137d8686a9a2d4d3eab6295133ef0dc57be2bbb5ec3a"), looks := false }, kinds := [], alts := [], laidByText := true, laidKinds := [.data], laidTests := true, laidLooks := .later }
def TransferGroupsCardSaid : Prop := Claim7.holds Tryd.pinned (.plain (OpenSpec.ofChange transferGroupsSpec)) transferGroupsCard

/-- THE TIED CARD OF 'lacquerlaw01.TransferRestored'. -/
def transferRestoredCard : Claim7 := { stood := { row := transferRestoredRow, standIns := [], harness := (true, "6bfb89a0d1e7406e6562137d8686a9a2d4d3eab6295133ef0dc57be2bbb5ec3a"), looks := false }, kinds := [], alts := [], laidByText := true, laidKinds := [.data], laidTests := true, laidLooks := .later }
def TransferRestoredCardSaid : Prop := Claim7.holds Tryd.pinned (.plain (OpenSpec.ofChange transferRestoredSpec)) transferRestoredCard

/-- THE TIED CARD OF 'lacquerlaw01.TransferCarrierStrings'. -/
def transferCarrierStringsCard : Claim7 := { stood := { row := transferCarrierStringsRow, standIns := [], harness := (true, "6bfb89a0d1e7406e6562137d8686a9a2d4d3eab6295133ef0dc57be2bbb5ec3a"), looks := false }, kinds := [], alts := [], laidByText := true, laidKinds := [.data, .data, .data, .data, .data, .data, .pinned], laidTests := true, laidLooks := .later }
def TransferCarrierStringsCardSaid : Prop := Claim7.holds Tryd.pinned (.plain (OpenSpec.ofChange transferCarrierStringsSpec)) transferCarrierStringsCard

/-- THE SECOND FORM's CARD OF 'lacquerlaw01.TransferCarriers'. -/
def transferCarriersUptoCard : Claim7 := { stood := { row := transferCarriersUptoRow, standIns := [], harness := (true, "6bfb89a0d1e7406e6562137d8686a9a2d4d3eab6295133ef0dc57be2bbb5ec3a"), looks := false }, kinds := [], alts := [], laidByText := true, laidKinds := [.data], laidTests := true, laidLooks := .later }
def TransferCarriersUptoCardSaid : Prop := Claim7.holds Tryd.pinned (.plain (OpenSpec.upto transferCarriersSpec)) transferCarriersUptoCard

/-- THE SECOND FORM's CARD OF 'lacquerlaw01.TransferBlocks'. -/
def transferBlocksUptoCard : Claim7 := { stood := { row := transferBlocksUptoRow, standIns := [], harness := (true, "6bfb89a0d1e7406e6562137d8686a9a2d4d3eab6295133ef0dc57be2bbb5ec3a"), looks := false }, kinds := [], alts := [], laidByText := true, laidKinds := [.data], laidTests := true, laidLooks := .later }
def TransferBlocksUptoCardSaid : Prop := Claim7.holds Tryd.pinned (.plain (OpenSpec.upto transferBlocksSpec)) transferBlocksUptoCard

/-- THE SECOND FORM's CARD OF 'lacquerlaw01.TransferDamage'. -/
def transferDamageUptoCard : Claim7 := { stood := { row := transferDamageUptoRow, standIns := [], harness := (true, "6bfb89a0d1e7406e6562137d8686a9a2d4d3eab6295133ef0dc57be2bbb5ec3a"), looks := false }, kinds := [], alts := [], laidByText := true, laidKinds := [.data], laidTests := true, laidLooks := .later }
def TransferDamageUptoCardSaid : Prop := Claim7.holds Tryd.pinned (.plain (OpenSpec.upto transferDamageSpec)) transferDamageUptoCard

/-- THE SECOND FORM's CARD OF 'lacquerlaw01.TransferStreams'. -/
def transferStreamsUptoCard : Claim7 := { stood := { row := transferStreamsUptoRow, standIns := [], harness := (true, "6bfb89a0d1e7406e6562137d8686a9a2d4d3eab6295133ef0dc57be2bbb5ec3a"), looks := false }, kinds := [], alts := [], laidByText := true, laidKinds := [.data], laidTests := true, laidLooks := .later }
def TransferStreamsUptoCardSaid : Prop := Claim7.holds Tryd.pinned (.plain (OpenSpec.upto transferStreamsSpec)) transferStreamsUptoCard

/-- THE SECOND FORM's CARD OF 'lacquerlaw01.TransferCuts'. -/
def transferCutsUptoCard : Claim7 := { stood := { row := transferCutsUptoRow, standIns := [], harness := (true, "6bfb89a0d1e7406e6562137d8686a9a2d4d3eab6295133ef0dc57be2bbb5ec3a"), looks := false }, kinds := [], alts := [], laidByText := true, laidKinds := [.data], laidTests := true, laidLooks := .later }
def TransferCutsUptoCardSaid : Prop := Claim7.holds Tryd.pinned (.plain (OpenSpec.upto transferCutsSpec)) transferCutsUptoCard

/-- THE SECOND FORM's CARD OF 'lacquerlaw01.TransferTogether'. -/
def transferTogetherUptoCard : Claim7 := { stood := { row := transferTogetherUptoRow, standIns := [], harness := (true, "6bfb89a0d1e7406e6562137d8686a9a2d4d3eab6295133ef0dc57be2bbb5ec3a"), looks := false }, kinds := [], alts := [], laidByText := true, laidKinds := [.data], laidTests := true, laidLooks := .later }
def TransferTogetherUptoCardSaid : Prop := Claim7.holds Tryd.pinned (.plain (OpenSpec.upto transferTogetherSpec)) transferTogetherUptoCard

/-- THE SECOND FORM's CARD OF 'lacquerlaw01.TransferPacks'. -/
def transferPacksUptoCard : Claim7 := { stood := { row := transferPacksUptoRow, standIns := [], harness := (true, "6bfb89a0d1e7406e6562137d8686a9a2d4d3eab6295133ef0dc57be2bbb5ec3a"), looks := false }, kinds := [], alts := [], laidByText := true, laidKinds := [.data], laidTests := true, laidLooks := .later }
def TransferPacksUptoCardSaid : Prop := Claim7.holds Tryd.pinned (.plain (OpenSpec.upto transferPacksSpec)) transferPacksUptoCard

/-- THE SECOND FORM's CARD OF 'lacquerlaw01.TransferUnpacks'. -/
def transferUnpacksUptoCard : Claim7 := { stood := { row := transferUnpacksUptoRow, standIns := [], harness := (true, "6bfb89a0d1e7406e6562137d8686a9a2d4d3eab6295133ef0dc57be2bbb5ec3a"), looks := false }, kinds := [], alts := [], laidByText := true, laidKinds := [.data], laidTests := true, laidLooks := .later }
def TransferUnpacksUptoCardSaid : Prop := Claim7.holds Tryd.pinned (.plain (OpenSpec.upto transferUnpacksSpec)) transferUnpacksUptoCard

/-- THE SECOND FORM's CARD OF 'lacquerlaw01.TransferBitByBit'. -/
def transferBitByBitUptoCard : Claim7 := { stood := { row := transferBitByBitUptoRow, standIns := [], harness := (true, "6bfb89a0d1e7406e6562137d8686a9a2d4d3eab6295133ef0dc57be2bbb5ec3a"), looks := false }, kinds := [], alts := [], laidByText := true, laidKinds := [.data], laidTests := true, laidLooks := .later }
def TransferBitByBitUptoCardSaid : Prop := Claim7.holds Tryd.pinned (.plain (OpenSpec.upto transferBitByBitSpec)) transferBitByBitUptoCard

/-- THE SECOND FORM's CARD OF 'lacquerlaw01.TransferParities'. -/
def transferParitiesUptoCard : Claim7 := { stood := { row := transferParitiesUptoRow, standIns := [], harness := (true, "6bfb89a0d1e7406e6562137d8686a9a2d4d3eab6295133ef0dc57be2bbb5ec3a"), looks := false }, kinds := [], alts := [], laidByText := true, laidKinds := [.data], laidTests := true, laidLooks := .later }
def TransferParitiesUptoCardSaid : Prop := Claim7.holds Tryd.pinned (.plain (OpenSpec.upto transferParitiesSpec)) transferParitiesUptoCard

/-- THE SECOND FORM's CARD OF 'lacquerlaw01.TransferGroups'. -/
def transferGroupsUptoCard : Claim7 := { stood := { row := transferGroupsUptoRow, standIns := [], harness := (true, "6bfb89a0d1e7406e6562137d8686a9a2d4d3eab6295133ef0dc57be2bbb5ec3a"), looks := false }, kinds := [], alts := [], laidByText := true, laidKinds := [.data], laidTests := true, laidLooks := .later }
def TransferGroupsUptoCardSaid : Prop := Claim7.holds Tryd.pinned (.plain (OpenSpec.upto transferGroupsSpec)) transferGroupsUptoCard

/-- THE SECOND FORM's CARD OF 'lacquerlaw01.TransferRestored'. -/
def transferRestoredUptoCard : Claim7 := { stood := { row := transferRestoredUptoRow, standIns := [], harness := (true, "6bfb89a0d1e7406e6562137d8686a9a2d4d3eab6295133ef0dc57be2bbb5ec3a"), looks := false }, kinds := [], alts := [], laidByText := true, laidKinds := [.data], laidTests := true, laidLooks := .later }
def TransferRestoredUptoCardSaid : Prop := Claim7.holds Tryd.pinned (.plain (OpenSpec.upto transferRestoredSpec)) transferRestoredUptoCard

/-- THE SECOND FORM's CARD OF 'lacquerlaw01.TransferCarrierStrings'. -/
def transferCarrierStringsUptoCard : Claim7 := { stood := { row := transferCarrierStringsUptoRow, standIns := [], harness := (true, "6bfb89a0d1e7406e6562137d8686a9a2d4d3eab6295133ef0dc57be2bbb5ec3a"), looks := false }, kinds := [], alts := [], laidByText := true, laidKinds := [.data, .data, .data, .data, .data, .data, .pinned], laidTests := true, laidLooks := .later }
def TransferCarrierStringsUptoCardSaid : Prop := Claim7.holds Tryd.pinned (.plain (OpenSpec.upto transferCarrierStringsSpec)) transferCarrierStringsUptoCard
end Rows
end Go.Proofs.YtepjnkmmielamaaDoor
