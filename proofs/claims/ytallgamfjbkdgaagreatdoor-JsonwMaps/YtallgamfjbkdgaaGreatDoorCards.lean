/-
  DERIVED. GIVEN WITH THE SEED: THE CARDS: each row of YtallgamfjbkdgaaGreatDoorRows.lean that lists a variable, with what it lists TIED to the program's text (the seventh form; the later family's looks); each row that meets fmt, with fmt's text TOLD by the authors' own Lean function (tested against real Go, not proved from fmt's source: count such statements apart). THE CARD IS WHAT COUNTS. Prove the row's statement (the work); the ties are given (YtallgamfjbkdgaaGreatDoorTie.lean); close each card by the builder's one call (the guide's Derived/Test/ToyasCard.lean, 'card_holds'). Laid BY PROGRAM, IN A SANDBOX (cutbox-door.mjs). By AI agents, Wed Nov 11 2026. No macro, syntax, notation, axiom, sorry.
-/
import Derived.Test.YtallgamfjbkdgaaGreatDoorRows
import GoSem.ClaimSeven
namespace Go.Proofs.YtallgamfjbkdgaaGreatDoor
namespace Rows

/-- THE TIED CARD OF 'targumlaw09.JsonwWrites'. -/
def jsonwWritesCard : Claim7 := { stood := { row := jsonwWritesRow, standIns := [], harness := (true, "6cb59e98a46900294dbb11bd8887018e8df963f098db604ec904ab444d949058"), looks := true }, kinds := [], alts := [], laidByText := true, laidKinds := [.data, .data, .data, .sentinel, .sentinel, .data, .sentinel, .sentinel], laidTests := true, laidLooks := .later }
def JsonwWritesCardSaid : Prop := Claim7.holds Tryz.pinned (.plain (OpenSpec.ofChange jsonwWritesSpec)) jsonwWritesCard

/-- THE TIED CARD OF 'targumlaw09.JsonwApart'. -/
def jsonwApartCard : Claim7 := { stood := { row := jsonwApartRow, standIns := [], harness := (true, "6cb59e98a46900294dbb11bd8887018e8df963f098db604ec904ab444d949058"), looks := true }, kinds := [], alts := [], laidByText := true, laidKinds := [.data, .data, .data, .sentinel, .sentinel, .data, .sentinel, .sentinel], laidTests := true, laidLooks := .later }
def JsonwApartCardSaid : Prop := Claim7.holds Tryz.pinned (.plain (OpenSpec.ofChange jsonwApartSpec)) jsonwApartCard

/-- THE TIED CARD OF 'targumlaw09.JsonwLists'. -/
def jsonwListsCard : Claim7 := { stood := { row := jsonwListsRow, standIns := [], harness := (true, "6cb59e98a46900294dbb11bd8887018e8df963f098db604ec904ab444d949058"), looks := true }, kinds := [], alts := [], laidByText := true, laidKinds := [.data, .data, .data, .sentinel, .sentinel, .data, .sentinel, .sentinel], laidTests := true, laidLooks := .later }
def JsonwListsCardSaid : Prop := Claim7.holds Tryz.pinned (.plain (OpenSpec.ofChange jsonwListsSpec)) jsonwListsCard

/-- THE TIED CARD OF 'targumlaw09.JsonwMaps'. -/
def jsonwMapsCard : Claim7 := { stood := { row := jsonwMapsRow, standIns := [], harness := (true, "6cb59e98a46900294dbb11bd8887018e8df963f098db604ec904ab444d949058"), looks := true }, kinds := [], alts := [], laidByText := true, laidKinds := [.data, .data, .data, .sentinel, .sentinel, .data, .sentinel, .sentinel], laidTests := true, laidLooks := .later }
def JsonwMapsCardSaid : Prop := Claim7.holds Tryz.pinned (.plain (OpenSpec.ofChange jsonwMapsSpec)) jsonwMapsCard

/-- THE SECOND FORM's CARD OF 'targumlaw09.JsonwWrites'. -/
def jsonwWritesUptoCard : Claim7 := { stood := { row := jsonwWritesUptoRow, standIns := [], harness := (true, "6cb59e98a46900294dbb11bd8887018e8df963f098db604ec904ab444d949058"), looks := true }, kinds := [], alts := [], laidByText := true, laidKinds := [.data, .data, .data, .sentinel, .sentinel, .data, .sentinel, .sentinel], laidTests := true, laidLooks := .later }
def JsonwWritesUptoCardSaid : Prop := Claim7.holds Tryz.pinned (.plain (OpenSpec.upto jsonwWritesSpec)) jsonwWritesUptoCard

/-- THE SECOND FORM's CARD OF 'targumlaw09.JsonwApart'. -/
def jsonwApartUptoCard : Claim7 := { stood := { row := jsonwApartUptoRow, standIns := [], harness := (true, "6cb59e98a46900294dbb11bd8887018e8df963f098db604ec904ab444d949058"), looks := true }, kinds := [], alts := [], laidByText := true, laidKinds := [.data, .data, .data, .sentinel, .sentinel, .data, .sentinel, .sentinel], laidTests := true, laidLooks := .later }
def JsonwApartUptoCardSaid : Prop := Claim7.holds Tryz.pinned (.plain (OpenSpec.upto jsonwApartSpec)) jsonwApartUptoCard

/-- THE SECOND FORM's CARD OF 'targumlaw09.JsonwLists'. -/
def jsonwListsUptoCard : Claim7 := { stood := { row := jsonwListsUptoRow, standIns := [], harness := (true, "6cb59e98a46900294dbb11bd8887018e8df963f098db604ec904ab444d949058"), looks := true }, kinds := [], alts := [], laidByText := true, laidKinds := [.data, .data, .data, .sentinel, .sentinel, .data, .sentinel, .sentinel], laidTests := true, laidLooks := .later }
def JsonwListsUptoCardSaid : Prop := Claim7.holds Tryz.pinned (.plain (OpenSpec.upto jsonwListsSpec)) jsonwListsUptoCard

/-- THE SECOND FORM's CARD OF 'targumlaw09.JsonwMaps'. -/
def jsonwMapsUptoCard : Claim7 := { stood := { row := jsonwMapsUptoRow, standIns := [], harness := (true, "6cb59e98a46900294dbb11bd8887018e8df963f098db604ec904ab444d949058"), looks := true }, kinds := [], alts := [], laidByText := true, laidKinds := [.data, .data, .data, .sentinel, .sentinel, .data, .sentinel, .sentinel], laidTests := true, laidLooks := .later }
def JsonwMapsUptoCardSaid : Prop := Claim7.holds Tryz.pinned (.plain (OpenSpec.upto jsonwMapsSpec)) jsonwMapsUptoCard
end Rows
end Go.Proofs.YtallgamfjbkdgaaGreatDoor
