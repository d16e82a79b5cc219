/-
  DERIVED. GIVEN WITH THE SEED: THE CARDS: each row of YtgaaiiacdeejfaaDoorRows.lean that lists a variable, with what it lists TIED to the program's text (the seventh form; the later family's looks); each row that meets fmt, with fmt's text TOLD by the authors' own Lean function (tested against real Go, not proved from fmt's source: count such statements apart). THE CARD IS WHAT COUNTS. Prove the row's statement (the work); the ties are given (YtgaaiiacdeejfaaDoorTie.lean); close each card by the builder's one call (the guide's Derived/Test/ToyasCard.lean, 'card_holds'). Laid BY PROGRAM, IN A SANDBOX (cutbox-door.mjs). By AI agents, Wed Nov 11 2026. No macro, syntax, notation, axiom, sorry.
-/
import Derived.Test.YtgaaiiacdeejfaaDoorRows
import GoSem.ClaimSeven
namespace Go.Proofs.YtgaaiiacdeejfaaDoor
namespace Rows

/-- THE TIED CARD OF 'targumlaw10.HeadMakes'. -/
def headMakesCard : Claim7 := { stood := { row := headMakesRow, standIns := [], harness := (true, "37399feee8c5e713a7fa152982ce455800502d60249472fffd6b5c5efd1bce51"), looks := false }, kinds := [], alts := [], laidByText := true, laidKinds := [.data], laidTests := true, laidLooks := .later }
def HeadMakesCardSaid : Prop := Claim7.holds Tryd.pinned (.plain (OpenSpec.ofChange headMakesSpec)) headMakesCard

/-- THE TIED CARD OF 'targumlaw10.HeadBack'. -/
def headBackCard : Claim7 := { stood := { row := headBackRow, standIns := [], harness := (true, "37399feee8c5e713a7fa152982ce455800502d60249472fffd6b5c5efd1bce51"), looks := false }, kinds := [], alts := [], laidByText := true, laidKinds := [.data], laidTests := true, laidLooks := .later }
def HeadBackCardSaid : Prop := Claim7.holds Tryd.pinned (.plain (OpenSpec.ofChange headBackSpec)) headBackCard

/-- THE TIED CARD OF 'targumlaw10.HeadMore'. -/
def headMoreCard : Claim7 := { stood := { row := headMoreRow, standIns := [], harness := (true, "37399feee8c5e713a7fa152982ce455800502d60249472fffd6b5c5efd1bce51"), looks := false }, kinds := [], alts := [], laidByText := true, laidKinds := [.data], laidTests := true, laidLooks := .later }
def HeadMoreCardSaid : Prop := Claim7.holds Tryd.pinned (.plain (OpenSpec.ofChange headMoreSpec)) headMoreCard

/-- THE TIED CARD OF 'targumlaw10.HeadShorts'. -/
def headShortsCard : Claim7 := { stood := { row := headShortsRow, standIns := [], harness := (true, "37399feee8c5e713a7fa152982ce455800502d60249472fffd6b5c5efd1bce51"), looks := false }, kinds := [], alts := [], laidByText := true, laidKinds := [.data], laidTests := true, laidLooks := .later }
def HeadShortsCardSaid : Prop := Claim7.holds Tryd.pinned (.plain (OpenSpec.ofChange headShortsSpec)) headShortsCard

/-- THE TIED CARD OF 'targumlaw10.HeadGrows'. -/
def headGrowsCard : Claim7 := { stood := { row := headGrowsRow, standIns := [], harness := (true, "37399feee8c5e713a7fa152982ce455800502d60249472fffd6b5c5efd1bce51"), looks := false }, kinds := [], alts := [], laidByText := true, laidKinds := [.data], laidTests := true, laidLooks := .later }
def HeadGrowsCardSaid : Prop := Claim7.holds Tryd.pinned (.plain (OpenSpec.ofChange headGrowsSpec)) headGrowsCard

/-- THE TIED CARD OF 'targumlaw10.HeadMajors'. -/
def headMajorsCard : Claim7 := { stood := { row := headMajorsRow, standIns := [], harness := (true, "37399feee8c5e713a7fa152982ce455800502d60249472fffd6b5c5efd1bce51"), looks := false }, kinds := [], alts := [], laidByText := true, laidKinds := [.data], laidTests := true, laidLooks := .later }
def HeadMajorsCardSaid : Prop := Claim7.holds Tryd.pinned (.plain (OpenSpec.ofChange headMajorsSpec)) headMajorsCard

/-- THE TIED CARD OF 'targumlaw10.HeadOpens'. -/
def headOpensCard : Claim7 := { stood := { row := headOpensRow, standIns := [], harness := (true, "37399feee8c5e713a7fa152982ce455800502d60249472fffd6b5c5efd1bce51"), looks := false }, kinds := [], alts := [], laidByText := true, laidKinds := [.data], laidTests := true, laidLooks := .later }
def HeadOpensCardSaid : Prop := Claim7.holds Tryd.pinned (.plain (OpenSpec.ofChange headOpensSpec)) headOpensCard

/-- THE SECOND FORM's CARD OF 'targumlaw10.HeadMakes'. -/
def headMakesUptoCard : Claim7 := { stood := { row := headMakesUptoRow, standIns := [], harness := (true, "37399feee8c5e713a7fa152982ce455800502d60249472fffd6b5c5efd1bce51"), looks := false }, kinds := [], alts := [], laidByText := true, laidKinds := [.data], laidTests := true, laidLooks := .later }
def HeadMakesUptoCardSaid : Prop := Claim7.holds Tryd.pinned (.plain (OpenSpec.upto headMakesSpec)) headMakesUptoCard

/-- THE SECOND FORM's CARD OF 'targumlaw10.HeadBack'. -/
def headBackUptoCard : Claim7 := { stood := { row := headBackUptoRow, standIns := [], harness := (true, "37399feee8c5e713a7fa152982ce455800502d60249472fffd6b5c5efd1bce51"), looks := false }, kinds := [], alts := [], laidByText := true, laidKinds := [.data], laidTests := true, laidLooks := .later }
def HeadBackUptoCardSaid : Prop := Claim7.holds Tryd.pinned (.plain (OpenSpec.upto headBackSpec)) headBackUptoCard

/-- THE SECOND FORM's CARD OF 'targumlaw10.HeadMore'. -/
def headMoreUptoCard : Claim7 := { stood := { row := headMoreUptoRow, standIns := [], harness := (true, "37399feee8c5e713a7fa152982ce455800502d60249472fffd6b5c5efd1bce51"), looks := false }, kinds := [], alts := [], laidByText := true, laidKinds := [.data], laidTests := true, laidLooks := .later }
def HeadMoreUptoCardSaid : Prop := Claim7.holds Tryd.pinned (.plain (OpenSpec.upto headMoreSpec)) headMoreUptoCard

/-- THE SECOND FORM's CARD OF 'targumlaw10.HeadShorts'. -/
def headShortsUptoCard : Claim7 := { stood := { row := headShortsUptoRow, standIns := [], harness := (true, "37399feee8c5e713a7fa152982ce455800502d60249472fffd6b5c5efd1bce51"), looks := false }, kinds := [], alts := [], laidByText := true, laidKinds := [.data], laidTests := true, laidLooks := .later }
def HeadShortsUptoCardSaid : Prop := Claim7.holds Tryd.pinned (.plain (OpenSpec.upto headShortsSpec)) headShortsUptoCard

/-- THE SECOND FORM's CARD OF 'targumlaw10.HeadGrows'. -/
def headGrowsUptoCard : Claim7 := { stood := { row := headGrowsUptoRow, standIns := [], harness := (true, "37399feee8c5e713a7fa152982ce455800502d60249472fffd6b5c5efd1bce51"), looks := false }, kinds := [], alts := [], laidByText := true, laidKinds := [.data], laidTests := true, laidLooks := .later }
def HeadGrowsUptoCardSaid : Prop := Claim7.holds Tryd.pinned (.plain (OpenSpec.upto headGrowsSpec)) headGrowsUptoCard

/-- THE SECOND FORM's CARD OF 'targumlaw10.HeadMajors'. -/
def headMajorsUptoCard : Claim7 := { stood := { row := headMajorsUptoRow, standIns := [], harness := (true, "37399feee8c5e713a7fa152982ce455800502d60249472fffd6b5c5efd1bce51"), looks := false }, kinds := [], alts := [], laidByText := true, laidKinds := [.data], laidTests := true, laidLooks := .later }
def HeadMajorsUptoCardSaid : Prop := Claim7.holds Tryd.pinned (.plain (OpenSpec.upto headMajorsSpec)) headMajorsUptoCard

/-- THE SECOND FORM's CARD OF 'targumlaw10.HeadOpens'. -/
def headOpensUptoCard : Claim7 := { stood := { row := headOpensUptoRow, standIns := [], harness := (true, "37399feee8c5e713a7fa152982ce455800502d60249472fffd6b5c5efd1bce51"), looks := false }, kinds := [], alts := [], laidByText := true, laidKinds := [.data], laidTests := true, laidLooks := .later }
def HeadOpensUptoCardSaid : Prop := Claim7.holds Tryd.pinned (.plain (OpenSpec.upto headOpensSpec)) headOpensUptoCard
end Rows
end Go.Proofs.YtgaaiiacdeejfaaDoor
