/- What the world must hold beside the table: an error of strconv's. -/
import Derived.Test.YtifccjchpciicaaGreatDoorE0
namespace Go.Proofs.YtifccjchpciicaaGreatDoor
open Go.RowKit
/-- The variable of strconv's second error holds an error. -/
def ErrR (w : World) : Prop := ∃ te pe, w.cell? ⟨1, 0, none⟩ = some (.iface te pe)
theorem ErrR.lt {w : World} (h : ErrR w) : 1 < w.heap.size := by
  obtain ⟨te, pe, h⟩ := h
  rcases Nat.lt_or_ge 1 w.heap.size with h1 | h1
  · exact h1
  · exfalso
    have : w.heap[1]? = none := Array.getElem?_eq_none h1
    simp [World.cell?, this] at h
theorem ErrR.below {w w' : World} (h : ErrR w) (hb : Below w.heap.size w w') : ErrR w' := by
  have hl := h.lt
  obtain ⟨te, pe, h⟩ := h
  exact ⟨te, pe, (hb.cell (p := ⟨1, 0, none⟩) hl).trans h⟩

def ErrT (w : World) : Prop := ErrR w
theorem ErrT.below {w w' : World} (h : ErrT w) (hb : Below w.heap.size w w') : ErrT w' := ErrR.below h hb
end Go.Proofs.YtifccjchpciicaaGreatDoor
