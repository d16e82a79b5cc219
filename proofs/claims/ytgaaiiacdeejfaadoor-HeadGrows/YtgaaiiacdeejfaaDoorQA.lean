/- Blocks known whole (the words of float's texts). -/
import Derived.Test.YtgaaiiacdeejfaaDoorQ0
import Derived.Deep.QuietTactic
import Derived.BigQuiet
import Derived.Lib.LaidTab
import Derived.LoopNIn
import Derived.RangeFuncKeeps
import Derived.RangeFuncWrites
import Derived.RangeFuncNested
import Derived.Laws.PanicsMore
import Derived.Below
import Derived.RangeFuncBound
import Derived.RangeFuncCalls
import Derived.RangeFuncLeaves
import Derived.RangeFuncBox
import Derived.Shelf.Abstract
import Derived.Shelf.RegionOpen
import Derived.OwnWalkIn
namespace Go.Proofs.YtgaaiiacdeejfaaDoor
open Go.RowKit Go.Shelf

theorem lt_of_cell {w : World} {b o : Nat} {v : Value} (h : w.cell? ⟨b, o, none⟩ = some v) : b < w.heap.size := by
  rcases Nat.lt_or_ge b w.heap.size with h1 | h1
  · exact h1
  · simp [World.cell?, Array.getElem?_eq_none h1] at h
/-- A block known whole. -/
def At (W : World) (B : Nat) (cs : Array Value) (T : TypeId) : Prop := W.heap[B]? = some (.cells cs T (0, 0))
theorem At.lt {W : World} {B : Nat} {cs : Array Value} {T : TypeId} (h : At W B cs T) : B < W.heap.size := (Array.getElem?_eq_some_iff.1 h).1
theorem At.c {W : World} {B : Nat} {cs : Array Value} {T : TypeId} (h : At W B cs T) (i : Nat) {v : Value} (hv : cs[i]? = some v) : W.cell? ⟨B, i, none⟩ = some v := by simp [World.cell?, show W.heap[B]? = _ from h, hv]
theorem At.f {W : World} {B : Nat} {cs : Array Value} {T : TypeId} (h : At W B cs T) (i : Nat) : W.frozen? ⟨B, i, none⟩ = false := frozen_of_row W B i _ _ h
theorem At.below {W W' : World} {B : Nat} {cs : Array Value} {T : TypeId} (h : At W B cs T) (hb : Below W.heap.size W W') : At W' B cs T := (hb.block B h.lt).trans h
theorem At.new (W : World) (cs : Array Value) (T : TypeId) : At (W.alloc (.cells cs T)) W.heap.size cs T := heap_alloc_new W _
theorem At.alloc {W : World} {B : Nat} {cs : Array Value} {T : TypeId} (h : At W B cs T) (o : Obj) : At (W.alloc o) B cs T := h.below ((Below.refl _ W).alloc (Nat.le_refl _) o)
theorem At.new1 (W : World) (o : Obj) (cs : Array Value) (T : TypeId) : At ((W.alloc o).alloc (.cells cs T)) (W.heap.size + 1) cs T := by
  have := At.new (W.alloc o) cs T
  rwa [World.size_alloc] at this
theorem At.new2 (W : World) (o o' : Obj) (cs : Array Value) (T : TypeId) : At (((W.alloc o).alloc o').alloc (.cells cs T)) (W.heap.size + 1 + 1) cs T := by
  have := At.new ((W.alloc o).alloc o') cs T
  rwa [World.size_alloc, World.size_alloc] at this
theorem At.off {W : World} {B C i : Nat} {cs : Array Value} {T : TypeId} {v : Value} (h : At W B cs T) (hne : B ≠ C) : At (W.setCell ⟨C, i, none⟩ v) B cs T := (heap_setCell_other W ⟨C, i, none⟩ B _ hne).trans h
theorem below2 {w W : World} {B : Nat} (h : Below w.heap.size w W) (hB : w.heap.size ≤ B) (a b : Value) : Below w.heap.size w ((W.setCell ⟨B, 0, none⟩ a).setCell ⟨B, 1, none⟩ b) :=
  (h.setCell (p := ⟨B, 0, none⟩) hB _).setCell (p := ⟨B, 1, none⟩) hB _
theorem below_al {w W : World} (h : Below w.heap.size w W) (o : Obj) : Below w.heap.size w (W.alloc o) := h.alloc h.size o
theorem at_kept {A B : World} {row : Option Nat} {b : Nat} {cs : Array Value} {T : TypeId} (hs : At A b cs T) (hg : A.grownBy B row) (hr : ∀ r, row = some r → ∃ o : Obj, A.heap[r]? = some o ∧ o.isCells = false) : At B b cs T :=
  (hg.block b hs.lt (fun e => by obtain ⟨o, ho, hc⟩ := hr b e.symm; rw [show A.heap[b]? = _ from hs] at ho; cases ho; cases hc)).trans hs
theorem at_own (b : Nat) (T : TypeId) {β : Type} (f : β → Array Value) : Own (fun s W => At W b (f s) T) := fun _ _ _ _ hs hg hr => at_kept hs hg hr
theorem At.putObj {A : World} {b l : Nat} {cs : Array Value} {T : TypeId} {o : Obj} (o' : Obj) (hs : At A b cs T) (hl : A.heap[l]? = some o) (ho : o.isCells = false) : At (A.putObj l o') b cs T :=
  at_kept hs (grownBy_putObj' A l o') (fun r e => by cases e; exact ⟨o, hl, ho⟩)
theorem At.set1 {W : World} {B : Nat} {a : Value} {T : TypeId} (h : At W B #[a] T) (x : Value) : At (W.setCell ⟨B, 0, none⟩ x) B #[x] T := heap_setCell_same W B 0 _ _ x h
theorem At.set2 {W : World} {B : Nat} {a b : Value} {T : TypeId} (h : At W B #[a, b] T) (x y : Value) : At ((W.setCell ⟨B, 0, none⟩ x).setCell ⟨B, 1, none⟩ y) B #[x, y] T := by
  have h1 := heap_setCell_same W B 0 _ _ x h
  exact heap_setCell_same _ B 1 _ _ y h1
theorem below1 {w W : World} {B : Nat} (h : Below w.heap.size w W) (hB : w.heap.size ≤ B) (a : Value) : Below w.heap.size w (W.setCell ⟨B, 0, none⟩ a) := h.setCell (p := ⟨B, 0, none⟩) hB _
theorem keepsO_below {A B : World} (h : Below A.heap.size A B) : KeepsOthers A B := ⟨h.size, fun k _ hk _ => (h.block k (Array.getElem?_eq_some_iff.1 hk).1).trans hk⟩
theorem scope_in {n : Nat} {c : Code} {Q : Exit → Act → World → Prop} {a : Act} {w : World} (h : c.wpIn Fence.wide n Tryd.prog (Exit.noGoto Q) a w) : (Code.scope c).wpIn Fence.wide n Tryd.prog Q a w :=
  wpIn_wide.2 (wp_scope_straight (wpIn_wide.1 h))
theorem label_in {n : Nat} {l : Nat} {Q : Exit → Act → World → Prop} {a : Act} {w : World} (h : Q .normal a w) : (Code.label l).wpIn Fence.wide n Tryd.prog Q a w :=
  wpIn_wide.2 (wp_label h)
end Go.Proofs.YtgaaiiacdeejfaaDoor
