/-
  DERIVED. GIVEN WITH THE SEED: THE CARDS: each row of YtgcalhnfoakggaaDoorRows.lean that lists a variable, with what it lists TIED to the program's text (the seventh form; the later family's looks); each row that meets fmt, with fmt's text TOLD by the authors' own Lean function (tested against real Go, not proved from fmt's source: count such statements apart). THE CARD IS WHAT COUNTS. Prove the row's statement (the work); the ties are given (YtgcalhnfoakggaaDoorTie.lean); close each card by the builder's one call (the guide's Derived/Test/ToyasCard.lean, 'card_holds'). Laid BY PROGRAM, IN A SANDBOX (cutbox-door.mjs). By AI agents, Wed Nov 11 2026. No macro, syntax, notation, axiom, sorry.
-/
import Derived.Test.YtgcalhnfoakggaaDoorRows
import GoSem.ClaimSeven
namespace Go.Proofs.YtgcalhnfoakggaaDoor
namespace Rows

/-- THE TIED CARD OF 'targumlaw05.FloatTurns'. -/
def floatTurnsCard : Claim7 := { stood := { row := floatTurnsRow, standIns := [], harness := (true, "12411f25b805442554005a2485409bb31f1f84e5fca7834170502ecdd5e185fa"), looks := false }, kinds := [], alts := [], laidByText := true, laidKinds := [.data, .data, .data, .data, .data, .pinned], laidTests := true, laidLooks := .later }
def FloatTurnsCardSaid : Prop := Claim7.holds Tryd.pinned (.plain (OpenSpec.ofChange floatTurnsSpec)) floatTurnsCard

/-- THE TIED CARD OF 'targumlaw05.FloatWholes'. -/
def floatWholesCard : Claim7 := { stood := { row := floatWholesRow, standIns := [], harness := (true, "12411f25b805442554005a2485409bb31f1f84e5fca7834170502ecdd5e185fa"), looks := false }, kinds := [], alts := [], laidByText := true, laidKinds := [.data, .data, .data, .data, .data, .pinned], laidTests := true, laidLooks := .later }
def FloatWholesCardSaid : Prop := Claim7.holds Tryd.pinned (.plain (OpenSpec.ofChange floatWholesSpec)) floatWholesCard

/-- THE TIED CARD OF 'targumlaw05.FloatSigns'. -/
def floatSignsCard : Claim7 := { stood := { row := floatSignsRow, standIns := [], harness := (true, "12411f25b805442554005a2485409bb31f1f84e5fca7834170502ecdd5e185fa"), looks := false }, kinds := [], alts := [], laidByText := true, laidKinds := [.data, .data, .data, .data, .data, .pinned], laidTests := true, laidLooks := .later }
def FloatSignsCardSaid : Prop := Claim7.holds Tryd.pinned (.plain (OpenSpec.ofChange floatSignsSpec)) floatSignsCard

/-- THE TIED CARD OF 'targumlaw05.FloatWays'. -/
def floatWaysCard : Claim7 := { stood := { row := floatWaysRow, standIns := [], harness := (true, "12411f25b805442554005a2485409bb31f1f84e5fca7834170502ecdd5e185fa"), looks := false }, kinds := [], alts := [], laidByText := true, laidKinds := [.data, .data, .data, .data, .data, .pinned], laidTests := true, laidLooks := .later }
def FloatWaysCardSaid : Prop := Claim7.holds Tryd.pinned (.plain (OpenSpec.ofChange floatWaysSpec)) floatWaysCard

/-- THE SECOND FORM's CARD OF 'targumlaw05.FloatTurns'. -/
def floatTurnsUptoCard : Claim7 := { stood := { row := floatTurnsUptoRow, standIns := [], harness := (true, "12411f25b805442554005a2485409bb31f1f84e5fca7834170502ecdd5e185fa"), looks := false }, kinds := [], alts := [], laidByText := true, laidKinds := [.data, .data, .data, .data, .data, .pinned], laidTests := true, laidLooks := .later }
def FloatTurnsUptoCardSaid : Prop := Claim7.holds Tryd.pinned (.plain (OpenSpec.upto floatTurnsSpec)) floatTurnsUptoCard

/-- THE SECOND FORM's CARD OF 'targumlaw05.FloatWholes'. -/
def floatWholesUptoCard : Claim7 := { stood := { row := floatWholesUptoRow, standIns := [], harness := (true, "12411f25b805442554005a2485409bb31f1f84e5fca7834170502ecdd5e185fa"), looks := false }, kinds := [], alts := [], laidByText := true, laidKinds := [.data, .data, .data, .data, .data, .pinned], laidTests := true, laidLooks := .later }
def FloatWholesUptoCardSaid : Prop := Claim7.holds Tryd.pinned (.plain (OpenSpec.upto floatWholesSpec)) floatWholesUptoCard

/-- THE SECOND FORM's CARD OF 'targumlaw05.FloatSigns'. -/
def floatSignsUptoCard : Claim7 := { stood := { row := floatSignsUptoRow, standIns := [], harness := (true, "12411f25b805442554005a2485409bb31f1f84e5fca7834170502ecdd5e185fa"), looks := false }, kinds := [], alts := [], laidByText := true, laidKinds := [.data, .data, .data, .data, .data, .pinned], laidTests := true, laidLooks := .later }
def FloatSignsUptoCardSaid : Prop := Claim7.holds Tryd.pinned (.plain (OpenSpec.upto floatSignsSpec)) floatSignsUptoCard

/-- THE SECOND FORM's CARD OF 'targumlaw05.FloatWays'. -/
def floatWaysUptoCard : Claim7 := { stood := { row := floatWaysUptoRow, standIns := [], harness := (true, "12411f25b805442554005a2485409bb31f1f84e5fca7834170502ecdd5e185fa"), looks := false }, kinds := [], alts := [], laidByText := true, laidKinds := [.data, .data, .data, .data, .data, .pinned], laidTests := true, laidLooks := .later }
def FloatWaysUptoCardSaid : Prop := Claim7.holds Tryd.pinned (.plain (OpenSpec.upto floatWaysSpec)) floatWaysUptoCard
end Rows
end Go.Proofs.YtgcalhnfoakggaaDoor
