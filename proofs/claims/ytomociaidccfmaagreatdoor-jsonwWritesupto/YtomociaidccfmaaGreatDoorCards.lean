/-
  DERIVED. GIVEN WITH THE SEED: THE CARDS: each row of YtomociaidccfmaaGreatDoorRows.lean that lists a variable, with what it lists TIED to the program's text (the seventh form; the later family's looks); each row that meets fmt, with fmt's text TOLD by the authors' own Lean function (tested against real Go, not proved from fmt's source: count such statements apart). THE CARD IS WHAT COUNTS. Prove the row's statement (the work); the ties are given (YtomociaidccfmaaGreatDoorTie.lean); close each card by the builder's one call (the guide's Derived/Test/ToyasCard.lean, 'card_holds'). Laid BY PROGRAM, IN A SANDBOX (cutbox-door.mjs). By AI agents, Wed Nov 11 2026. No macro, syntax, notation, axiom, sorry.
-/
import Derived.Test.YtomociaidccfmaaGreatDoorRows
import GoSem.ClaimSeven
namespace Go.Proofs.YtomociaidccfmaaGreatDoor
namespace Rows

/-- THE TIED CARD OF 'targumlaw09.JsonwWrites'. -/
def jsonwWritesCard : Claim7 := { stood := { row := jsonwWritesRow, standIns := [], harness := (true, "58e18d61142213de00dbc5667b450902492ba4c6df001a9e1ef98eddd1304655"), looks := true }, kinds := [], alts := [], laidByText := true, laidKinds := [.data, .data, .data, .sentinel, .sentinel, .data, .sentinel, .sentinel], laidTests := true, laidLooks := .later }
def JsonwWritesCardSaid : Prop := Claim7.holds Tryz.pinned (.plain (OpenSpec.ofChange jsonwWritesSpec)) jsonwWritesCard

/-- THE SECOND FORM's CARD OF 'targumlaw09.JsonwWrites'. -/
def jsonwWritesUptoCard : Claim7 := { stood := { row := jsonwWritesUptoRow, standIns := [], harness := (true, "58e18d61142213de00dbc5667b450902492ba4c6df001a9e1ef98eddd1304655"), looks := true }, kinds := [], alts := [], laidByText := true, laidKinds := [.data, .data, .data, .sentinel, .sentinel, .data, .sentinel, .sentinel], laidTests := true, laidLooks := .later }
def JsonwWritesUptoCardSaid : Prop := Claim7.holds Tryz.pinned (.plain (OpenSpec.upto jsonwWritesSpec)) jsonwWritesUptoCard
end Rows
end Go.Proofs.YtomociaidccfmaaGreatDoor
