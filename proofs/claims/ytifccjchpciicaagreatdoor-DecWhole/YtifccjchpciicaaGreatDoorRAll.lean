/- The walk of readAll, of two texts. -/
import Derived.Test.YtifccjchpciicaaGreatDoorRead
import Derived.ScopeJumps
import Derived.LoopN
namespace Go.Proofs.YtifccjchpciicaaGreatDoor
open Go.RowKit

/-- What read hands back of a natural. -/
def ReadYes (n : Nat) (w : World) (e : Ending) (w' : World) : Prop := ∃ R v, e = .returned (.tuple #[v, .bool true]) ∧ Lm w' v R ∧ Bd R ∧ Nm R ∧ val R = n ∧ R.length ≤ 45 ∧ Below w.heap.size w w'
theorem read_yes (s : ByteArray) (w : World) (h : isNat s.data.toList = true) : Calls Tryz.prog 53 #[.string s] w (ReadYes (dv s.data.toList) w) :=
  (read_calls s w).mono fun e w' hp => by
    rcases hp with ⟨h0, _⟩ | ⟨_, R, v, hh⟩
    · rw [h] at h0; cases h0
    · exact ⟨R, v, hh⟩
theorem read_none (s : ByteArray) (w : World) (h : isNat s.data.toList = false) : Calls Tryz.prog 53 #[.string s] w fun e w' => e = .returned (.tuple #[.slice none 0 0, .bool false]) ∧ Below w.heap.size w w' :=
  (read_calls s w).mono fun e w' hp => by
    rcases hp with ⟨_, hh⟩ | ⟨h1, _⟩
    · exact hh
    · rw [h] at h1; cases h1

def AllYes (a b : Nat) (w : World) (e : Ending) (w' : World) : Prop := ∃ g cap, 2 ≤ cap ∧ e = .returned (.tuple #[.slice (some ⟨g, 0, none⟩) 2 cap, .bool true]) ∧ Two a b g w' ∧ Below w.heap.size w w'

theorem info50 : (Tryz.prog.info? 82).map (fun i => (i.zero, i.size, i.bytes)) = some (some (.slice none 0 0), 1, 24) := by kernel_rfl

/-- Block g holds two slices. -/
def Pair (W : World) (g : Nat) (v0 v1 : Value) : Prop := W.heap[g]? = some (.cells #[v0, v1] 82 (0, 0))
theorem Pair.lt {W : World} {g : Nat} {v0 v1 : Value} (h : Pair W g v0 v1) : g < W.heap.size := (Array.getElem?_eq_some_iff.1 h).1
theorem Pair.cell0 {W : World} {g : Nat} {v0 v1 : Value} (h : Pair W g v0 v1) : W.cell? ⟨g, 0, none⟩ = some v0 := by simp [World.cell?, show W.heap[g]? = _ from h]
theorem Pair.cell1 {W : World} {g : Nat} {v0 v1 : Value} (h : Pair W g v0 v1) : W.cell? ⟨g, 1, none⟩ = some v1 := by simp [World.cell?, show W.heap[g]? = _ from h]
theorem Pair.frozen {W : World} {g : Nat} {v0 v1 : Value} (h : Pair W g v0 v1) (j : Nat) : W.frozen? ⟨g, j, none⟩ = false := by simp [World.frozen?, show W.heap[g]? = _ from h]
theorem Pair.set0 {W : World} {g : Nat} {v0 v1 : Value} (h : Pair W g v0 v1) (u : Value) : Pair (W.setCell ⟨g, 0, none⟩ u) g u v1 := by
  obtain ⟨hlt, hk⟩ := Array.getElem?_eq_some_iff.1 h
  show (W.heap.modify g _)[g]? = _
  rw [Array.getElem?_eq_getElem (by rw [Array.size_modify]; exact hlt), Array.getElem_modify_self, hk]
  rfl
theorem Pair.set1 {W : World} {g : Nat} {v0 v1 : Value} (h : Pair W g v0 v1) (u : Value) : Pair (W.setCell ⟨g, 1, none⟩ u) g v0 u := by
  obtain ⟨hlt, hk⟩ := Array.getElem?_eq_some_iff.1 h
  show (W.heap.modify g _)[g]? = _
  rw [Array.getElem?_eq_getElem (by rw [Array.size_modify]; exact hlt), Array.getElem_modify_self, hk]
  rfl

theorem Lm.setCell {W : World} {v : Value} {L : List Nat} (h : Lm W v L) {p : Addr} {a : Option Addr} {n c : Nat} (hp : W.cell? p = some (.slice a n c)) (u : Value) : Lm (W.setCell p u) v L := by
  rcases h with h | ⟨b, off, cap, rfl, hc, hlt, hcs⟩
  · exact .inl h
  · refine .inr ⟨b, off, cap, rfl, hc, by simpa [World.setCell] using hlt, fun j hj => ?_⟩
    rw [World.cell?_setCell_other _ _ _ _ (fun e => by rw [e, hcs j hj] at hp; cases hp)]
    exact hcs j hj

theorem jump_ret (l : Nat) (J : Act → World → Prop) (Q : Exit → Act → World → Prop) (a : Act) (w : World) : Exit.jump l J Q .ret a w = Q .ret a w := rfl

/-- Where readAll jumps: nothing old has turned. -/
def Jumps (w : World) (a : Act) (w' : World) : Prop := (∃ u0 u1 u2 u3 u4 u5 u6 u7 u8 u9 u10 u11 u12 u13 u14 u15 u16 u17 u18 u19 u20 u21 u22 u23 u24 u25 u26 u27 u28 u29 u30 : Value, a = { tmps := #[u0, u1, u2, u3, u4, u5, u6, u7, u8, u9, u10, u11, u12, u13, u14, u15, u16, u17, u18, u19, u20, u21, u22, u23, u24, u25, u26, u27, u28, u29, u30], defers := [] }) ∧ Below w.heap.size w w'

end Go.Proofs.YtifccjchpciicaaGreatDoor
