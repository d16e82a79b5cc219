/-
  DERIVED. GIVEN WITH THE SEED: THE CARDS: each row of YtppapkpceejnkaaGreatDoorRows.lean that lists a variable, with what it lists TIED to the program's text (the seventh form; the later family's looks); each row that meets fmt, with fmt's text TOLD by the authors' own Lean function (tested against real Go, not proved from fmt's source: count such statements apart). THE CARD IS WHAT COUNTS. Prove the row's statement (the work); the ties are given (YtppapkpceejnkaaGreatDoorTie.lean); close each card by the builder's one call (the guide's Derived/Test/ToyasCard.lean, 'card_holds'). Laid BY PROGRAM, IN A SANDBOX (cutbox-door.mjs). By AI agents, Wed Nov 11 2026. No macro, syntax, notation, axiom, sorry.
-/
import Derived.Test.YtppapkpceejnkaaGreatDoorRows
import GoSem.ClaimSeven
namespace Go.Proofs.YtppapkpceejnkaaGreatDoor
namespace Rows

/-- THE TIED CARD OF 'targumlaw11.CborrFits'. -/
def cborrFitsCard : Claim7 := { stood := { row := cborrFitsRow, standIns := [], harness := (true, "155b7ed6780760ebc8aacddc313e538b6958936ccd10ad95d33c741b2b921062"), looks := true }, kinds := [], alts := [], laidByText := true, laidKinds := [.data, .data, .data, .data, .handle, .sentinel, .sentinel, .data, .data, .sentinel, .sentinel, .pinned], laidTests := true, laidLooks := .later }
def CborrFitsCardSaid : Prop := Claim7.holds Tryz.pinned (.plain (OpenSpec.ofChange cborrFitsSpec)) cborrFitsCard

/-- THE TIED CARD OF 'targumlaw11.CborrBehind'. -/
def cborrBehindCard : Claim7 := { stood := { row := cborrBehindRow, standIns := [], harness := (true, "155b7ed6780760ebc8aacddc313e538b6958936ccd10ad95d33c741b2b921062"), looks := true }, kinds := [], alts := [], laidByText := true, laidKinds := [.data, .data, .data, .data, .handle, .sentinel, .sentinel, .data, .data, .sentinel, .sentinel, .pinned], laidTests := true, laidLooks := .later }
def CborrBehindCardSaid : Prop := Claim7.holds Tryz.pinned (.plain (OpenSpec.ofChange cborrBehindSpec)) cborrBehindCard

/-- THE TIED CARD OF 'targumlaw11.CborrLists'. -/
def cborrListsCard : Claim7 := { stood := { row := cborrListsRow, standIns := [], harness := (true, "155b7ed6780760ebc8aacddc313e538b6958936ccd10ad95d33c741b2b921062"), looks := true }, kinds := [], alts := [], laidByText := true, laidKinds := [.data, .data, .data, .data, .handle, .sentinel, .sentinel, .data, .data, .sentinel, .sentinel, .pinned], laidTests := true, laidLooks := .later }
def CborrListsCardSaid : Prop := Claim7.holds Tryz.pinned (.plain (OpenSpec.ofChange cborrListsSpec)) cborrListsCard

/-- THE TIED CARD OF 'targumlaw11.CborrChunks'. -/
def cborrChunksCard : Claim7 := { stood := { row := cborrChunksRow, standIns := [], harness := (true, "155b7ed6780760ebc8aacddc313e538b6958936ccd10ad95d33c741b2b921062"), looks := true }, kinds := [], alts := [], laidByText := true, laidKinds := [.data, .data, .data, .data, .handle, .sentinel, .sentinel, .data, .data, .sentinel, .sentinel, .pinned], laidTests := true, laidLooks := .later }
def CborrChunksCardSaid : Prop := Claim7.holds Tryz.pinned (.plain (OpenSpec.ofChange cborrChunksSpec)) cborrChunksCard

/-- THE TIED CARD OF 'targumlaw11.CborrTags'. -/
def cborrTagsCard : Claim7 := { stood := { row := cborrTagsRow, standIns := [], harness := (true, "155b7ed6780760ebc8aacddc313e538b6958936ccd10ad95d33c741b2b921062"), looks := true }, kinds := [], alts := [], laidByText := true, laidKinds := [.data, .data, .data, .data, .handle, .sentinel, .sentinel, .data, .data, .sentinel, .sentinel, .pinned], laidTests := true, laidLooks := .later }
def CborrTagsCardSaid : Prop := Claim7.holds Tryz.pinned (.plain (OpenSpec.ofChange cborrTagsSpec)) cborrTagsCard

/-- THE TIED CARD OF 'targumlaw12.CborwWrites'. -/
def cborwWritesCard : Claim7 := { stood := { row := cborwWritesRow, standIns := [], harness := (true, "155b7ed6780760ebc8aacddc313e538b6958936ccd10ad95d33c741b2b921062"), looks := true }, kinds := [], alts := [], laidByText := true, laidKinds := [.data, .data, .data, .sentinel, .sentinel, .data, .data, .sentinel, .sentinel], laidTests := true, laidLooks := .later }
def CborwWritesCardSaid : Prop := Claim7.holds Tryz.pinned (.plain (OpenSpec.ofChange cborwWritesSpec)) cborwWritesCard

/-- THE TIED CARD OF 'targumlaw12.CborwBack'. -/
def cborwBackCard : Claim7 := { stood := { row := cborwBackRow, standIns := [], harness := (true, "155b7ed6780760ebc8aacddc313e538b6958936ccd10ad95d33c741b2b921062"), looks := true }, kinds := [], alts := [], laidByText := true, laidKinds := [.data, .data, .data, .data, .handle, .sentinel, .sentinel, .data, .data, .sentinel, .sentinel, .pinned], laidTests := true, laidLooks := .later }
def CborwBackCardSaid : Prop := Claim7.holds Tryz.pinned (.plain (OpenSpec.ofChange cborwBackSpec)) cborwBackCard

/-- THE TIED CARD OF 'targumlaw12.CborwTurns'. -/
def cborwTurnsCard : Claim7 := { stood := { row := cborwTurnsRow, standIns := [], harness := (true, "155b7ed6780760ebc8aacddc313e538b6958936ccd10ad95d33c741b2b921062"), looks := true }, kinds := [], alts := [], laidByText := true, laidKinds := [.data, .data, .data, .data, .handle, .sentinel, .sentinel, .data, .data, .sentinel, .sentinel, .pinned], laidTests := true, laidLooks := .later }
def CborwTurnsCardSaid : Prop := Claim7.holds Tryz.pinned (.plain (OpenSpec.ofChange cborwTurnsSpec)) cborwTurnsCard

/-- THE TIED CARD OF 'targumlaw12.CborwApart'. -/
def cborwApartCard : Claim7 := { stood := { row := cborwApartRow, standIns := [], harness := (true, "155b7ed6780760ebc8aacddc313e538b6958936ccd10ad95d33c741b2b921062"), looks := true }, kinds := [], alts := [], laidByText := true, laidKinds := [.data, .data, .data, .sentinel, .sentinel, .data, .data, .sentinel, .sentinel], laidTests := true, laidLooks := .later }
def CborwApartCardSaid : Prop := Claim7.holds Tryz.pinned (.plain (OpenSpec.ofChange cborwApartSpec)) cborwApartCard

/-- THE TIED CARD OF 'targumlaw12.CborwKeys'. -/
def cborwKeysCard : Claim7 := { stood := { row := cborwKeysRow, standIns := [], harness := (true, "155b7ed6780760ebc8aacddc313e538b6958936ccd10ad95d33c741b2b921062"), looks := true }, kinds := [], alts := [], laidByText := true, laidKinds := [.data, .data, .data, .sentinel, .sentinel, .data, .data, .sentinel, .sentinel], laidTests := true, laidLooks := .later }
def CborwKeysCardSaid : Prop := Claim7.holds Tryz.pinned (.plain (OpenSpec.ofChange cborwKeysSpec)) cborwKeysCard

/-- THE TIED CARD OF 'targumlaw12.CborwSizes'. -/
def cborwSizesCard : Claim7 := { stood := { row := cborwSizesRow, standIns := [], harness := (true, "155b7ed6780760ebc8aacddc313e538b6958936ccd10ad95d33c741b2b921062"), looks := true }, kinds := [], alts := [], laidByText := true, laidKinds := [.data, .data, .data, .sentinel, .sentinel, .data, .data, .sentinel, .sentinel], laidTests := true, laidLooks := .later }
def CborwSizesCardSaid : Prop := Claim7.holds Tryz.pinned (.plain (OpenSpec.ofChange cborwSizesSpec)) cborwSizesCard

/-- THE SECOND FORM's CARD OF 'targumlaw11.CborrFits'. -/
def cborrFitsUptoCard : Claim7 := { stood := { row := cborrFitsUptoRow, standIns := [], harness := (true, "155b7ed6780760ebc8aacddc313e538b6958936ccd10ad95d33c741b2b921062"), looks := true }, kinds := [], alts := [], laidByText := true, laidKinds := [.data, .data, .data, .data, .handle, .sentinel, .sentinel, .data, .data, .sentinel, .sentinel, .pinned], laidTests := true, laidLooks := .later }
def CborrFitsUptoCardSaid : Prop := Claim7.holds Tryz.pinned (.plain (OpenSpec.upto cborrFitsSpec)) cborrFitsUptoCard

/-- THE SECOND FORM's CARD OF 'targumlaw11.CborrBehind'. -/
def cborrBehindUptoCard : Claim7 := { stood := { row := cborrBehindUptoRow, standIns := [], harness := (true, "155b7ed6780760ebc8aacddc313e538b6958936ccd10ad95d33c741b2b921062"), looks := true }, kinds := [], alts := [], laidByText := true, laidKinds := [.data, .data, .data, .data, .handle, .sentinel, .sentinel, .data, .data, .sentinel, .sentinel, .pinned], laidTests := true, laidLooks := .later }
def CborrBehindUptoCardSaid : Prop := Claim7.holds Tryz.pinned (.plain (OpenSpec.upto cborrBehindSpec)) cborrBehindUptoCard

/-- THE SECOND FORM's CARD OF 'targumlaw11.CborrLists'. -/
def cborrListsUptoCard : Claim7 := { stood := { row := cborrListsUptoRow, standIns := [], harness := (true, "155b7ed6780760ebc8aacddc313e538b6958936ccd10ad95d33c741b2b921062"), looks := true }, kinds := [], alts := [], laidByText := true, laidKinds := [.data, .data, .data, .data, .handle, .sentinel, .sentinel, .data, .data, .sentinel, .sentinel, .pinned], laidTests := true, laidLooks := .later }
def CborrListsUptoCardSaid : Prop := Claim7.holds Tryz.pinned (.plain (OpenSpec.upto cborrListsSpec)) cborrListsUptoCard

/-- THE SECOND FORM's CARD OF 'targumlaw11.CborrChunks'. -/
def cborrChunksUptoCard : Claim7 := { stood := { row := cborrChunksUptoRow, standIns := [], harness := (true, "155b7ed6780760ebc8aacddc313e538b6958936ccd10ad95d33c741b2b921062"), looks := true }, kinds := [], alts := [], laidByText := true, laidKinds := [.data, .data, .data, .data, .handle, .sentinel, .sentinel, .data, .data, .sentinel, .sentinel, .pinned], laidTests := true, laidLooks := .later }
def CborrChunksUptoCardSaid : Prop := Claim7.holds Tryz.pinned (.plain (OpenSpec.upto cborrChunksSpec)) cborrChunksUptoCard

/-- THE SECOND FORM's CARD OF 'targumlaw11.CborrTags'. -/
def cborrTagsUptoCard : Claim7 := { stood := { row := cborrTagsUptoRow, standIns := [], harness := (true, "155b7ed6780760ebc8aacddc313e538b6958936ccd10ad95d33c741b2b921062"), looks := true }, kinds := [], alts := [], laidByText := true, laidKinds := [.data, .data, .data, .data, .handle, .sentinel, .sentinel, .data, .data, .sentinel, .sentinel, .pinned], laidTests := true, laidLooks := .later }
def CborrTagsUptoCardSaid : Prop := Claim7.holds Tryz.pinned (.plain (OpenSpec.upto cborrTagsSpec)) cborrTagsUptoCard

/-- THE SECOND FORM's CARD OF 'targumlaw12.CborwWrites'. -/
def cborwWritesUptoCard : Claim7 := { stood := { row := cborwWritesUptoRow, standIns := [], harness := (true, "155b7ed6780760ebc8aacddc313e538b6958936ccd10ad95d33c741b2b921062"), looks := true }, kinds := [], alts := [], laidByText := true, laidKinds := [.data, .data, .data, .sentinel, .sentinel, .data, .data, .sentinel, .sentinel], laidTests := true, laidLooks := .later }
def CborwWritesUptoCardSaid : Prop := Claim7.holds Tryz.pinned (.plain (OpenSpec.upto cborwWritesSpec)) cborwWritesUptoCard

/-- THE SECOND FORM's CARD OF 'targumlaw12.CborwBack'. -/
def cborwBackUptoCard : Claim7 := { stood := { row := cborwBackUptoRow, standIns := [], harness := (true, "155b7ed6780760ebc8aacddc313e538b6958936ccd10ad95d33c741b2b921062"), looks := true }, kinds := [], alts := [], laidByText := true, laidKinds := [.data, .data, .data, .data, .handle, .sentinel, .sentinel, .data, .data, .sentinel, .sentinel, .pinned], laidTests := true, laidLooks := .later }
def CborwBackUptoCardSaid : Prop := Claim7.holds Tryz.pinned (.plain (OpenSpec.upto cborwBackSpec)) cborwBackUptoCard

/-- THE SECOND FORM's CARD OF 'targumlaw12.CborwTurns'. -/
def cborwTurnsUptoCard : Claim7 := { stood := { row := cborwTurnsUptoRow, standIns := [], harness := (true, "155b7ed6780760ebc8aacddc313e538b6958936ccd10ad95d33c741b2b921062"), looks := true }, kinds := [], alts := [], laidByText := true, laidKinds := [.data, .data, .data, .data, .handle, .sentinel, .sentinel, .data, .data, .sentinel, .sentinel, .pinned], laidTests := true, laidLooks := .later }
def CborwTurnsUptoCardSaid : Prop := Claim7.holds Tryz.pinned (.plain (OpenSpec.upto cborwTurnsSpec)) cborwTurnsUptoCard

/-- THE SECOND FORM's CARD OF 'targumlaw12.CborwApart'. -/
def cborwApartUptoCard : Claim7 := { stood := { row := cborwApartUptoRow, standIns := [], harness := (true, "155b7ed6780760ebc8aacddc313e538b6958936ccd10ad95d33c741b2b921062"), looks := true }, kinds := [], alts := [], laidByText := true, laidKinds := [.data, .data, .data, .sentinel, .sentinel, .data, .data, .sentinel, .sentinel], laidTests := true, laidLooks := .later }
def CborwApartUptoCardSaid : Prop := Claim7.holds Tryz.pinned (.plain (OpenSpec.upto cborwApartSpec)) cborwApartUptoCard

/-- THE SECOND FORM's CARD OF 'targumlaw12.CborwKeys'. -/
def cborwKeysUptoCard : Claim7 := { stood := { row := cborwKeysUptoRow, standIns := [], harness := (true, "155b7ed6780760ebc8aacddc313e538b6958936ccd10ad95d33c741b2b921062"), looks := true }, kinds := [], alts := [], laidByText := true, laidKinds := [.data, .data, .data, .sentinel, .sentinel, .data, .data, .sentinel, .sentinel], laidTests := true, laidLooks := .later }
def CborwKeysUptoCardSaid : Prop := Claim7.holds Tryz.pinned (.plain (OpenSpec.upto cborwKeysSpec)) cborwKeysUptoCard

/-- THE SECOND FORM's CARD OF 'targumlaw12.CborwSizes'. -/
def cborwSizesUptoCard : Claim7 := { stood := { row := cborwSizesUptoRow, standIns := [], harness := (true, "155b7ed6780760ebc8aacddc313e538b6958936ccd10ad95d33c741b2b921062"), looks := true }, kinds := [], alts := [], laidByText := true, laidKinds := [.data, .data, .data, .sentinel, .sentinel, .data, .data, .sentinel, .sentinel], laidTests := true, laidLooks := .later }
def CborwSizesUptoCardSaid : Prop := Claim7.holds Tryz.pinned (.plain (OpenSpec.upto cborwSizesSpec)) cborwSizesUptoCard
end Rows
end Go.Proofs.YtppapkpceejnkaaGreatDoor
