/-
  DERIVED. GIVEN WITH THE SEED: THE CARDS: each row of YtgcalhnfoakggaaGreatDoorRows.lean that lists a variable, with what it lists TIED to the program's text (the seventh form; the later family's looks); each row that meets fmt, with fmt's text TOLD by the authors' own Lean function (tested against real Go, not proved from fmt's source: count such statements apart). THE CARD IS WHAT COUNTS. Prove the row's statement (the work); the ties are given (YtgcalhnfoakggaaGreatDoorTie.lean); close each card by the builder's one call (the guide's Derived/Test/ToyasCard.lean, 'card_holds'). Laid BY PROGRAM, IN A SANDBOX (cutbox-door.mjs). By AI agents, Wed Nov 11 2026. No macro, syntax, notation, axiom, sorry.
-/
import Derived.Test.YtgcalhnfoakggaaGreatDoorRows
import GoSem.ClaimSeven
namespace Go.Proofs.YtgcalhnfoakggaaGreatDoor
namespace Rows

/-- THE TIED CARD OF 'targumlaw05.FloatWidths'. -/
def floatWidthsCard : Claim7 := { stood := { row := floatWidthsRow, standIns := [], harness := (true, "739e22d2782b0c7a26cc10089c5ed30bf357ebb07b4888885170cbe13505a27a"), looks := false }, kinds := [], alts := [], laidByText := true, laidKinds := [.data, .data, .data, .data, .data, .pinned], laidTests := true, laidLooks := .later }
def FloatWidthsCardSaid : Prop := Claim7.holds Tryz.pinned (.plain (OpenSpec.ofChange floatWidthsSpec)) floatWidthsCard

/-- THE TIED CARD OF 'targumlaw05.FloatDecimals'. -/
def floatDecimalsCard : Claim7 := { stood := { row := floatDecimalsRow, standIns := [], harness := (true, "739e22d2782b0c7a26cc10089c5ed30bf357ebb07b4888885170cbe13505a27a"), looks := false }, kinds := [], alts := [], laidByText := true, laidKinds := [.data, .data, .data, .data, .data, .pinned], laidTests := true, laidLooks := .later }
def FloatDecimalsCardSaid : Prop := Claim7.holds Tryz.pinned (.plain (OpenSpec.ofChange floatDecimalsSpec)) floatDecimalsCard

/-- THE TIED CARD OF 'targumlaw05.FloatBits'. -/
def floatBitsCard : Claim7 := { stood := { row := floatBitsRow, standIns := [], harness := (true, "739e22d2782b0c7a26cc10089c5ed30bf357ebb07b4888885170cbe13505a27a"), looks := false }, kinds := [], alts := [], laidByText := true, laidKinds := [.data, .data, .data, .data, .data, .pinned], laidTests := true, laidLooks := .later }
def FloatBitsCardSaid : Prop := Claim7.holds Tryz.pinned (.plain (OpenSpec.ofChange floatBitsSpec)) floatBitsCard

/-- THE TIED CARD OF 'targumlaw05.FloatBack'. -/
def floatBackCard : Claim7 := { stood := { row := floatBackRow, standIns := [], harness := (true, "739e22d2782b0c7a26cc10089c5ed30bf357ebb07b4888885170cbe13505a27a"), looks := false }, kinds := [], alts := [], laidByText := true, laidKinds := [.data, .data, .data, .data, .data, .pinned], laidTests := true, laidLooks := .later }
def FloatBackCardSaid : Prop := Claim7.holds Tryz.pinned (.plain (OpenSpec.ofChange floatBackSpec)) floatBackCard

/-- THE SECOND FORM's CARD OF 'targumlaw05.FloatWidths'. -/
def floatWidthsUptoCard : Claim7 := { stood := { row := floatWidthsUptoRow, standIns := [], harness := (true, "739e22d2782b0c7a26cc10089c5ed30bf357ebb07b4888885170cbe13505a27a"), looks := false }, kinds := [], alts := [], laidByText := true, laidKinds := [.data, .data, .data, .data, .data, .pinned], laidTests := true, laidLooks := .later }
def FloatWidthsUptoCardSaid : Prop := Claim7.holds Tryz.pinned (.plain (OpenSpec.upto floatWidthsSpec)) floatWidthsUptoCard

/-- THE SECOND FORM's CARD OF 'targumlaw05.FloatDecimals'. -/
def floatDecimalsUptoCard : Claim7 := { stood := { row := floatDecimalsUptoRow, standIns := [], harness := (true, "739e22d2782b0c7a26cc10089c5ed30bf357ebb07b4888885170cbe13505a27a"), looks := false }, kinds := [], alts := [], laidByText := true, laidKinds := [.data, .data, .data, .data, .data, .pinned], laidTests := true, laidLooks := .later }
def FloatDecimalsUptoCardSaid : Prop := Claim7.holds Tryz.pinned (.plain (OpenSpec.upto floatDecimalsSpec)) floatDecimalsUptoCard

/-- THE SECOND FORM's CARD OF 'targumlaw05.FloatBits'. -/
def floatBitsUptoCard : Claim7 := { stood := { row := floatBitsUptoRow, standIns := [], harness := (true, "739e22d2782b0c7a26cc10089c5ed30bf357ebb07b4888885170cbe13505a27a"), looks := false }, kinds := [], alts := [], laidByText := true, laidKinds := [.data, .data, .data, .data, .data, .pinned], laidTests := true, laidLooks := .later }
def FloatBitsUptoCardSaid : Prop := Claim7.holds Tryz.pinned (.plain (OpenSpec.upto floatBitsSpec)) floatBitsUptoCard

/-- THE SECOND FORM's CARD OF 'targumlaw05.FloatBack'. -/
def floatBackUptoCard : Claim7 := { stood := { row := floatBackUptoRow, standIns := [], harness := (true, "739e22d2782b0c7a26cc10089c5ed30bf357ebb07b4888885170cbe13505a27a"), looks := false }, kinds := [], alts := [], laidByText := true, laidKinds := [.data, .data, .data, .data, .data, .pinned], laidTests := true, laidLooks := .later }
def FloatBackUptoCardSaid : Prop := Claim7.holds Tryz.pinned (.plain (OpenSpec.upto floatBackSpec)) floatBackUptoCard
end Rows
end Go.Proofs.YtgcalhnfoakggaaGreatDoor
