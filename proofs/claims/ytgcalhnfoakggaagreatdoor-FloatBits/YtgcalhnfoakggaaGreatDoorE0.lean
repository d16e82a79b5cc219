/- Decimals, readers in memory; worlds that differ in one block. -/
import Derived.Test.YtgcalhnfoakggaaGreatDoorMd
import Derived.Lib.LaidTab
import Derived.Lib.ItoaMem
namespace Go.Proofs.YtgcalhnfoakggaaGreatDoor
open Go.RowKit
open Go.Lib (decDigits nDigits)

/-- A decimal in memory. -/
def DecAt (W : World) (B : Nat) (n : Bool) (s : ByteArray) (e : Int) : Prop := W.heap[B]? = some (.cells #[.bool n, .string s, .int .i64 e] 34 (0, 0))
theorem DecAt.lt {W : World} {B : Nat} {n : Bool} {s : ByteArray} {e : Int} (h : DecAt W B n s e) : B < W.heap.size := (Array.getElem?_eq_some_iff.1 h).1
theorem DecAt.c0 {W : World} {B : Nat} {n : Bool} {s : ByteArray} {e : Int} (h : DecAt W B n s e) : W.cell? ⟨B, 0, none⟩ = some (.bool n) := by simp [World.cell?, show W.heap[B]? = _ from h]
theorem DecAt.c1 {W : World} {B : Nat} {n : Bool} {s : ByteArray} {e : Int} (h : DecAt W B n s e) : W.cell? ⟨B, 1, none⟩ = some (.string s) := by simp [World.cell?, show W.heap[B]? = _ from h]
theorem DecAt.c2 {W : World} {B : Nat} {n : Bool} {s : ByteArray} {e : Int} (h : DecAt W B n s e) : W.cell? ⟨B, 2, none⟩ = some (.int .i64 e) := by simp [World.cell?, show W.heap[B]? = _ from h]
theorem DecAt.f {W : World} {B : Nat} {n : Bool} {s : ByteArray} {e : Int} (h : DecAt W B n s e) (i : Nat) : W.frozen? ⟨B, i, none⟩ = false := frozen_of_row W B i _ _ h
theorem DecAt.below {W W' : World} {B : Nat} {n : Bool} {s : ByteArray} {e : Int} (h : DecAt W B n s e) (hb : Below W.heap.size W W') : DecAt W' B n s e := (hb.block B h.lt).trans h
theorem DecAt.new (W : World) (n : Bool) (s : ByteArray) (e : Int) : DecAt (W.alloc (.cells #[.bool n, .string s, .int .i64 e] 34)) W.heap.size n s e := heap_alloc_new W _
theorem DecAt.alloc {W : World} {B : Nat} {n : Bool} {s : ByteArray} {e : Int} (h : DecAt W B n s e) (o : Obj) : DecAt (W.alloc o) B n s e := h.below ((Below.refl _ W).alloc (Nat.le_refl _) o)
/-- A decimal stored. -/
def setD (W : World) (B : Nat) (n : Bool) (s : ByteArray) (e : Int) : World := ((W.setCell ⟨B, 0, none⟩ (.bool n)).setCell ⟨B, 1, none⟩ (.string s)).setCell ⟨B, 2, none⟩ (.int .i64 e)
theorem DecAt.set {W : World} {B : Nat} {n n' : Bool} {s s' : ByteArray} {e e' : Int} (h : DecAt W B n s e) : DecAt (setD W B n' s' e') B n' s' e' := by
  have h1 := heap_setCell_same W B 0 _ _ (.bool n') h
  have h2 := heap_setCell_same _ B 1 _ _ (.string s') h1
  exact heap_setCell_same _ B 2 _ _ (.int .i64 e') h2
theorem DecAt.off {W : World} {B C : Nat} {n n' : Bool} {s s' : ByteArray} {e e' : Int} (h : DecAt W B n s e) (hne : B ≠ C) : DecAt (setD W C n' s' e') B n s e :=
  (heap_setCell_other _ ⟨C, 2, none⟩ B _ hne).trans ((heap_setCell_other _ ⟨C, 1, none⟩ B _ hne).trans ((heap_setCell_other _ ⟨C, 0, none⟩ B _ hne).trans h))
theorem below_setD {w W : World} {B : Nat} (h : Below w.heap.size w W) (hB : w.heap.size ≤ B) (n : Bool) (s : ByteArray) (e : Int) : Below w.heap.size w (setD W B n s e) :=
  ((h.setCell (p := ⟨B, 0, none⟩) hB _).setCell (p := ⟨B, 1, none⟩) hB _).setCell (p := ⟨B, 2, none⟩) hB _
theorem below_next {w W W' : World} (h : Below w.heap.size w W) (hb : Below W.heap.size W W') : Below w.heap.size w W' := h.trans (hb.mono h.size)

/-- All that was there stands, but for one block. -/
structure Kb (B : Nat) (w w' : World) : Prop where
  os : w'.os = w.os
  tape : w'.tape = w.tape
  output : w'.output = w.output
  size : w.heap.size ≤ w'.heap.size
  block : ∀ k, k < w.heap.size → k ≠ B → w'.heap[k]? = w.heap[k]?
theorem Kb.refl (B : Nat) (w : World) : Kb B w w := ⟨rfl, rfl, rfl, Nat.le_refl _, fun _ _ _ => rfl⟩
theorem Kb.trans {B : Nat} {a b c : World} (h : Kb B a b) (k : Kb B b c) : Kb B a c :=
  ⟨k.os.trans h.os, k.tape.trans h.tape, k.output.trans h.output, Nat.le_trans h.size k.size, fun i hi hB => (k.block i (Nat.lt_of_lt_of_le hi h.size) hB).trans (h.block i hi hB)⟩
theorem Kb.ofBelow {B : Nat} {a b : World} (h : Below a.heap.size a b) : Kb B a b := ⟨h.os, h.tape, h.output, h.size, fun i hi _ => h.block i hi⟩
theorem Kb.below {B : Nat} {a b c : World} (h : Kb B a b) (k : Below b.heap.size b c) : Kb B a c := h.trans (Kb.ofBelow k)
theorem Kb.toBelow {B n : Nat} {a b : World} (h : Kb B a b) (h1 : n ≤ B) (h2 : n ≤ a.heap.size) : Below n a b :=
  ⟨h.os, h.tape, h.output, h.size, fun k hk => h.block k (by omega) (by omega)⟩
theorem Kb.alloc {B : Nat} {a w : World} (h : Kb B a w) (o : Obj) : Kb B a (w.alloc o) := h.below ((Below.refl _ w).alloc (Nat.le_refl _) o)
theorem Kb.drew {B : Nat} {a w : World} (h : Kb B a w) : Kb B a w.drew := ⟨h.os, h.tape, h.output, h.size, h.block⟩
theorem Kb.setCell {B : Nat} {a w : World} (h : Kb B a w) (i : Nat) (u : Value) : Kb B a (w.setCell ⟨B, i, none⟩ u) :=
  ⟨h.os, h.tape, h.output, by rw [World.size_setCell]; exact h.size, fun k hk hB => (Below.heap_setCell w ⟨B, i, none⟩ u k hB).trans (h.block k hk hB)⟩
theorem Kb.dec {B C : Nat} {a b : World} {n : Bool} {s : ByteArray} {e : Int} (h : Kb B a b) (hd : DecAt a C n s e) (hne : C ≠ B) : DecAt b C n s e := (h.block C hd.lt hne).trans hd

/-- The library's table of powers of ten is as the program lays it. -/
def Tab (w : World) : Prop := Lib.TabIs Tryz.prog w "internal/strconv.uint64pow10" .u64 Lib.pow10Tab
theorem Tab.below {A B : World} (h : Tab A) (hb : Below A.heap.size A B) : Tab B := by
  unfold Tab Lib.TabIs World.var? at *
  cases hg : Tryz.prog.globalNamed "internal/strconv.uint64pow10" with
  | none => simp [hg] at h
  | some g =>
    simp only [hg, Option.bind_some] at h ⊢
    have hlt : g < A.heap.size := by
      rcases Nat.lt_or_ge g A.heap.size with h' | h'
      · exact h'
      · rw [Array.getElem?_eq_none h'] at h; simp at h
    rw [hb.block g hlt]
    exact h
section
variable {W W' : World} {B : Nat} {s : ByteArray} {n : Bool} {wh fr : ByteArray} {le : Bool} {po : ByteArray}
end
end Go.Proofs.YtgcalhnfoakggaaGreatDoor
