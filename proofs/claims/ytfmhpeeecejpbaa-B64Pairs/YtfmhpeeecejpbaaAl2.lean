/- The alphabets as they are used. -/
import Derived.Test.YtfmhpeeecejpbaaAl
namespace Go.Proofs.Ytfmhpeeecejpbaa
open Go.RowKit

/-- An alphabet: its width, and its letters, as many as there are numbers of that width. -/
structure Alph (wd : Nat) (f : Nat → Nat) (A : Array Value) : Prop where
  size : A.size = 65
  width : A[0]? = some (.int .u64 (wd : Int))
  letter : ∀ n, n < 2 ^ wd → A[n + 1]? = some (.int .i32 (f n : Int))
  le : wd ≤ 6
  pos : 4 ≤ wd
  small : ∀ n, n < 2 ^ wd → f n < 128
theorem alph64 : Alph 6 lettN A64 where
  size := A64_size
  width := by kernel_rfl
  letter := fun n hn => by
    have h : (alphL 6 L64)[n + 1]? = some (.int .i32 (lettN n : Int)) := by
      simp only [alphL, L64, List.getElem?_cons_succ, List.getElem?_map, List.getElem?_range (show n < 64 by omega), Option.map_some]
    rw [A64, List.getElem?_toArray]; exact h
  le := by decide
  pos := by decide
  small := fun n hn => lettN_lt n (by omega)
theorem alph16 : Alph 4 hexN A16 where
  size := A16_size
  width := by kernel_rfl
  letter := fun n hn => by
    have h : (alphL 4 L16)[n + 1]? = some (.int .i32 (hexN n : Int)) := by
      simp only [alphL, L16, List.getElem?_cons_succ, List.getElem?_map]
      rw [List.getElem?_append_left (by simp; omega)]
      simp only [List.getElem?_map, List.getElem?_range (show n < 16 by omega), Option.map_some]
    rw [A16, List.getElem?_toArray]; exact h
  le := by decide
  pos := by decide
  small := fun n hn => hexN_lt (by omega)

/-- An alphabet in memory. -/
def AtA (W : World) (B : Nat) (A : Array Value) : Prop := W.heap[B]? = some (.cells A 32 (0, 0))
theorem AtA.cell {W : World} {B : Nat} {A : Array Value} (h : AtA W B A) (i : Nat) : W.cell? ⟨B, i, none⟩ = A[i]? := cell_of_row W B i A 32 (0, 0) h
theorem AtA.lt {W : World} {B : Nat} {A : Array Value} (h : AtA W B A) : B < W.heap.size := (Array.getElem?_eq_some_iff.1 h).1

theorem box_alph (W : World) (A : Array Value) : (Instr.box 32 (.agg A)).run Try.prog W = .ok (.pointer (some ⟨W.heap.size, 0, none⟩)) (W.alloc (.cells A 32)) := by
  simp [Instr.box, newVar, newRow, Value.cells, go_sem]

set_option maxRecDepth 100000 in
set_option maxHeartbeats 400000 in
theorem lettersFor_calls (wd : Nat) (f : Nat → Nat) (A : Array Value) (hA : Alph wd f A) (n : Nat) (hn : n ≤ 1000) (w : World) :
    Calls Try.prog 26 #[.agg A, .int .i64 (n : Int)] w fun e w' => e = .returned (.int .i64 (((n * 8 + wd - 1) / wd : Nat) : Int)) ∧ w' = w.alloc (.cells A 32) := by
  have hb := box_alph w A
  have hAt : AtA (w.alloc (.cells A 32)) w.heap.size A := heap_alloc_last w _
  have hc := (hAt.cell 0).trans hA.width
  have h1 := hA.le
  have h2 := hA.pos
  have h3 : ¬ wd = 0 := by omega
  have h4 : ((wd : Int) == 0) = false := beq_eq_false_iff_ne.2 (by omega)
  clear hAt
  go_enter Try.func26, Try.ntmps26
  go_wp2
  go_ret
  refine ⟨?_, rfl⟩
  have e : (((n * 8 + wd - 1) / wd : Nat) : Int) = ((n : Int) * 8 + (wd : Int) - 1) / (wd : Int) := by
    rw [Int.natCast_ediv]; congr 1; omega
  rw [e]; rfl
end Go.Proofs.Ytfmhpeeecejpbaa
