/- Slices of limbs in memory, as lists of numbers: plain facts, no walk. -/
import Derived.Test.YtifccjchpciicaaGreatDoorR1
import Derived.WalkKit
import Derived.WalkSpells
import Derived.WalkLawsBesides
import Derived.Lib.Hide
namespace Go.Proofs.YtifccjchpciicaaGreatDoor
open Go.RowKit

theorem lat_lt {L : List Nat} {j : Nat} (h : j < L.length) : lat L j = L[j] := by simp [lat, h]
theorem lat_ge {L : List Nat} {j : Nat} (h : L.length ≤ j) : lat L j = 0 := by simp [lat, List.getElem?_eq_none h]

theorem Lm.below {A B : World} {v : Value} {L : List Nat} (h : Lm A v L) (hb : Below A.heap.size A B) : Lm B v L := by
  rcases h with h | ⟨b, off, cap, rfl, hc, hlt, hcs⟩
  · exact .inl h
  · exact .inr ⟨b, off, cap, rfl, hc, Nat.lt_of_lt_of_le hlt hb.size, fun j hj => (hb.cell (p := ⟨b, off + j, none⟩) hlt).trans (hcs j hj)⟩

theorem Lm.shape {W : World} {v : Value} {L : List Nat} (h : Lm W v L) : ∃ a cap, v = .slice a L.length cap := by
  rcases h with ⟨rfl, rfl⟩ | ⟨b, off, cap, rfl, _⟩
  · exact ⟨none, 0, rfl⟩
  · exact ⟨_, _, rfl⟩

/-- A call hands back limbs; what lay there lies as it lay. -/
def RetLm (L : List Nat) (w : World) (e : Ending) (w' : World) : Prop := ∃ v, e = .returned v ∧ Lm w' v L ∧ Below w.heap.size w w'

/-- Without the noughts at the end. -/
def trimL (L : List Nat) : List Nat := (L.reverse.dropWhile (· == 0)).reverse

theorem trimL_snoc_zero (L : List Nat) : trimL (L ++ [0]) = trimL L := by simp [trimL]
theorem trimL_snoc_pos (L : List Nat) (x : Nat) (h : x ≠ 0) : trimL (L ++ [x]) = L ++ [x] := by simp [trimL, h]
theorem trimL_nil : trimL [] = [] := rfl
theorem trimL_take_zero (L : List Nat) (k : Nat) (hk : k < L.length) (h : lat L k = 0) : trimL (L.take (k + 1)) = trimL (L.take k) := by
  rw [List.take_succ_eq_append_getElem hk]
  have : L[k] = 0 := by rw [← lat_lt hk]; exact h
  rw [this, trimL_snoc_zero]
theorem trimL_take_pos (L : List Nat) (k : Nat) (hk : k < L.length) (h : lat L k ≠ 0) : trimL (L.take (k + 1)) = L.take (k + 1) := by
  rw [List.take_succ_eq_append_getElem hk]
  have : L[k] ≠ 0 := by rw [← lat_lt hk]; exact h
  exact trimL_snoc_pos _ _ this
end Go.Proofs.YtifccjchpciicaaGreatDoor
