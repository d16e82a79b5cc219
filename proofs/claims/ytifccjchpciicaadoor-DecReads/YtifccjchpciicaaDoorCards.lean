/-
  DERIVED. GIVEN WITH THE SEED: THE CARDS: each row of YtifccjchpciicaaDoorRows.lean that lists a variable, with what it lists TIED to the program's text (the seventh form; the later family's looks); each row that meets fmt, with fmt's text TOLD by the authors' own Lean function (tested against real Go, not proved from fmt's source: count such statements apart). THE CARD IS WHAT COUNTS. Prove the row's statement (the work); the ties are given (YtifccjchpciicaaDoorTie.lean); close each card by the builder's one call (the guide's Derived/Test/ToyasCard.lean, 'card_holds'). Laid BY PROGRAM, IN A SANDBOX (cutbox-door.mjs). By AI agents, Wed Nov 11 2026. No macro, syntax, notation, axiom, sorry.
-/
import Derived.Test.YtifccjchpciicaaDoorRows
import GoSem.ClaimSeven
namespace Go.Proofs.YtifccjchpciicaaDoor
namespace Rows

/-- THE TIED CARD OF 'targumlaw04.DecMakes'. -/
def decMakesCard : Claim7 := { stood := { row := decMakesRow, standIns := [], harness := (true, "fadd5c9b70d133ba9b88976a0a1b368fbd7378c078b3e5f6df46a69086477075"), looks := false }, kinds := [], alts := [], laidByText := true, laidKinds := [.data, .data, .data, .data, .pinned], laidTests := true, laidLooks := .later }
def DecMakesCardSaid : Prop := Claim7.holds Tryd.pinned (.plain (OpenSpec.ofChange decMakesSpec)) decMakesCard

/-- THE TIED CARD OF 'targumlaw04.DecReads'. -/
def decReadsCard : Claim7 := { stood := { row := decReadsRow, standIns := [], harness := (true, "fadd5c9b70d133ba9b88976a0a1b368fbd7378c078b3e5f6df46a69086477075"), looks := false }, kinds := [], alts := [], laidByText := true, laidKinds := [.data, .data, .data, .data, .pinned], laidTests := true, laidLooks := .later }
def DecReadsCardSaid : Prop := Claim7.holds Tryd.pinned (.plain (OpenSpec.ofChange decReadsSpec)) decReadsCard

/-- THE TIED CARD OF 'targumlaw04.DecBack'. -/
def decBackCard : Claim7 := { stood := { row := decBackRow, standIns := [], harness := (true, "fadd5c9b70d133ba9b88976a0a1b368fbd7378c078b3e5f6df46a69086477075"), looks := false }, kinds := [], alts := [], laidByText := true, laidKinds := [.data, .data, .data, .data, .pinned], laidTests := true, laidLooks := .later }
def DecBackCardSaid : Prop := Claim7.holds Tryd.pinned (.plain (OpenSpec.ofChange decBackSpec)) decBackCard

/-- THE TIED CARD OF 'targumlaw04.DecSame'. -/
def decSameCard : Claim7 := { stood := { row := decSameRow, standIns := [], harness := (true, "fadd5c9b70d133ba9b88976a0a1b368fbd7378c078b3e5f6df46a69086477075"), looks := false }, kinds := [], alts := [], laidByText := true, laidKinds := [.data, .data, .data, .data, .pinned], laidTests := true, laidLooks := .later }
def DecSameCardSaid : Prop := Claim7.holds Tryd.pinned (.plain (OpenSpec.ofChange decSameSpec)) decSameCard

/-- THE TIED CARD OF 'targumlaw04.DecSigns'. -/
def decSignsCard : Claim7 := { stood := { row := decSignsRow, standIns := [], harness := (true, "fadd5c9b70d133ba9b88976a0a1b368fbd7378c078b3e5f6df46a69086477075"), looks := false }, kinds := [], alts := [], laidByText := true, laidKinds := [.data, .data, .data, .data, .pinned], laidTests := true, laidLooks := .later }
def DecSignsCardSaid : Prop := Claim7.holds Tryd.pinned (.plain (OpenSpec.ofChange decSignsSpec)) decSignsCard

/-- THE SECOND FORM's CARD OF 'targumlaw04.DecMakes'. -/
def decMakesUptoCard : Claim7 := { stood := { row := decMakesUptoRow, standIns := [], harness := (true, "fadd5c9b70d133ba9b88976a0a1b368fbd7378c078b3e5f6df46a69086477075"), looks := false }, kinds := [], alts := [], laidByText := true, laidKinds := [.data, .data, .data, .data, .pinned], laidTests := true, laidLooks := .later }
def DecMakesUptoCardSaid : Prop := Claim7.holds Tryd.pinned (.plain (OpenSpec.upto decMakesSpec)) decMakesUptoCard

/-- THE SECOND FORM's CARD OF 'targumlaw04.DecReads'. -/
def decReadsUptoCard : Claim7 := { stood := { row := decReadsUptoRow, standIns := [], harness := (true, "fadd5c9b70d133ba9b88976a0a1b368fbd7378c078b3e5f6df46a69086477075"), looks := false }, kinds := [], alts := [], laidByText := true, laidKinds := [.data, .data, .data, .data, .pinned], laidTests := true, laidLooks := .later }
def DecReadsUptoCardSaid : Prop := Claim7.holds Tryd.pinned (.plain (OpenSpec.upto decReadsSpec)) decReadsUptoCard

/-- THE SECOND FORM's CARD OF 'targumlaw04.DecBack'. -/
def decBackUptoCard : Claim7 := { stood := { row := decBackUptoRow, standIns := [], harness := (true, "fadd5c9b70d133ba9b88976a0a1b368fbd7378c078b3e5f6df46a69086477075"), looks := false }, kinds := [], alts := [], laidByText := true, laidKinds := [.data, .data, .data, .data, .pinned], laidTests := true, laidLooks := .later }
def DecBackUptoCardSaid : Prop := Claim7.holds Tryd.pinned (.plain (OpenSpec.upto decBackSpec)) decBackUptoCard

/-- THE SECOND FORM's CARD OF 'targumlaw04.DecSame'. -/
def decSameUptoCard : Claim7 := { stood := { row := decSameUptoRow, standIns := [], harness := (true, "fadd5c9b70d133ba9b88976a0a1b368fbd7378c078b3e5f6df46a69086477075"), looks := false }, kinds := [], alts := [], laidByText := true, laidKinds := [.data, .data, .data, .data, .pinned], laidTests := true, laidLooks := .later }
def DecSameUptoCardSaid : Prop := Claim7.holds Tryd.pinned (.plain (OpenSpec.upto decSameSpec)) decSameUptoCard

/-- THE SECOND FORM's CARD OF 'targumlaw04.DecSigns'. -/
def decSignsUptoCard : Claim7 := { stood := { row := decSignsUptoRow, standIns := [], harness := (true, "fadd5c9b70d133ba9b88976a0a1b368fbd7378c078b3e5f6df46a69086477075"), looks := false }, kinds := [], alts := [], laidByText := true, laidKinds := [.data, .data, .data, .data, .pinned], laidTests := true, laidLooks := .later }
def DecSignsUptoCardSaid : Prop := Claim7.holds Tryd.pinned (.plain (OpenSpec.upto decSignsSpec)) decSignsUptoCard
end Rows
end Go.Proofs.YtifccjchpciicaaDoor
