/- The walks of short, digits. -/
import Derived.Test.YtifccjchpciicaaGreatDoorEA
import Derived.IntWalk
namespace Go.Proofs.YtifccjchpciicaaGreatDoor
open Go.RowKit
open Go.Lib (decDigits nDigits)

set_option maxRecDepth 100000 in
set_option maxHeartbeats 1000000 in
theorem digits_p (B : Nat) (s : ByteArray) (n : Bool) (wh fr : ByteArray) (le : Bool) (po : ByteArray) (w : World) (h : RdAt w B s n wh fr le po) (h1 : wh.size ≤ 1000) (h2 : fr.size ≤ 1000) :
    Calls Tryz.prog 26 #[.pointer (some ⟨B, 0, none⟩)] w fun o w' => o = .returned (.string (wh ++ fr)) ∧ ∃ m, w' = w.drewN m := by
  have c2 := h.c2
  have c3 := h.c3
  clear h
  go_enter Tryz.func26, Tryz.ntmps26
  go_wp2
  go_quiet (fail)
  go_wp2
  go_ret
  exact ⟨rfl, _, rfl⟩

set_option maxRecDepth 100000 in
set_option maxHeartbeats 1000000 in
theorem short_p (B : Nat) (s : ByteArray) (n : Bool) (wh fr : ByteArray) (le : Bool) (po : ByteArray) (w : World) (h : RdAt w B s n wh fr le po) (h1 : wh.size ≤ 1000000000) (h2 : fr.size ≤ 1000000000) (b1 b2 : Bool) (hb1 : decide ((wh.size : Int) + (fr.size : Int) ≤ 400) = b1) (hb2 : decide ((po.size : Int) ≤ 4) = b2) :
    Calls Tryz.prog 25 #[.pointer (some ⟨B, 0, none⟩)] w fun o w' => o = .returned (.bool (b1 && b2)) ∧ ∃ m, w' = w.drewN m := by
  have c2 := h.c2
  have c3 := h.c3
  have c5 := h.c5
  have hsum : IntKind.i64.wrap ((wh.size : Int) + (fr.size : Int)) = (wh.size : Int) + (fr.size : Int) := IntWalk.i64_in _ (by omega)
  clear h h1 h2
  cases b1
  · go_enter Tryz.func25, Tryz.ntmps25
    go_wp2
    go_quiet (fail)
    go_wp2
    go_ret
    exact ⟨rfl, _, rfl⟩
  · go_enter Tryz.func25, Tryz.ntmps25
    go_wp2
    go_quiet (fail)
    go_wp2
    go_ret
    exact ⟨by first | rfl | (rw [← hb2]; rfl), _, rfl⟩
end Go.Proofs.YtifccjchpciicaaGreatDoor
