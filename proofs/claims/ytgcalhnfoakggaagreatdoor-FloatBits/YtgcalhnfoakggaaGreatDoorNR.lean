/- The walk of nat's Right. -/
import Derived.Test.YtgcalhnfoakggaaGreatDoorRAll
namespace Go.Proofs.YtgcalhnfoakggaaGreatDoor
open Go.RowKit
open Go.Lib (decDigits nDigits)

set_option maxRecDepth 100000 in
set_option maxHeartbeats 1000000 in
theorem Right_yes (s : ByteArray) (w : World) (h : isNat s.data.toList = true) : Calls Tryz.prog 53 #[.string s] w fun e w' => e = .returned (.bool true) ∧ Below w.heap.size w w' := by
  have HA := Lib.hid h
  clear h
  go_enter Tryz.func53, Tryz.ntmps53
  go_wp2_with (go_at_call 72; refine (read_yes _ _ HA.out).mono ?_; rintro e w1 ⟨R1, v1, rfl, hl1, hd1', hn1, hv1, hr1, hb1⟩; clear hl1 hv1)
  go_ret
  exact ⟨rfl, hb1⟩

set_option maxRecDepth 100000 in
set_option maxHeartbeats 1000000 in
theorem Right_no (s : ByteArray) (w : World) (h : isNat s.data.toList = false) : Calls Tryz.prog 53 #[.string s] w fun e w' => e = .returned (.bool false) ∧ Below w.heap.size w w' := by
  have HA := Lib.hid h
  clear h
  go_enter Tryz.func53, Tryz.ntmps53
  go_wp2_with (go_at_call 72; refine (read_none _ _ HA.out).mono ?_; rintro e w1 ⟨rfl, hb1⟩)
  go_ret
  exact ⟨rfl, hb1⟩
/-- nat's Right, of what a text is. -/
theorem natR_calls (s : ByteArray) (b : Bool) (w : World) (h : isNat s.data.toList = b) : Calls Tryz.prog 53 #[.string s] w fun e w' => e = .returned (.bool b) ∧ Below w.heap.size w w' := by
  cases b
  · exact Right_no s w h
  · exact Right_yes s w h
end Go.Proofs.YtgcalhnfoakggaaGreatDoor
