/- The alphabets. -/
import Derived.Test.YtfmhpeeecejpbaaBa
import Derived.Deep.WholeRow
namespace Go.Proofs.Ytfmhpeeecejpbaa
open Go.RowKit

def alphL (wd : Nat) (L : List Nat) : List Value := (.int .u64 (wd : Int)) :: L.map (fun n : Nat => Value.int .i32 (n : Int))
def L64 : List Nat := (List.range 64).map lettN
def L16 : List Nat := (List.range 16).map hexN ++ List.replicate 48 0
def Z0 : Array Value := (alphL 0 (List.replicate 64 0)).toArray
def A64 : Array Value := (alphL 6 L64).toArray
def A16 : Array Value := (alphL 4 L16).toArray

theorem info32 : (Try.prog.info? 32).map (fun i => (i.zero, i.size)) = some (some (.agg Z0), 65) := by kernel_rfl
theorem size32 : (Try.prog.info? 32).map (·.size) = some 65 := (zero_of_info info32).2
theorem Z0_size : Z0.size = 65 := by kernel_rfl
theorem A64_size : A64.size = 65 := by kernel_rfl
theorem A16_size : A16.size = 65 := by kernel_rfl

theorem Z0_ne : ¬ Z0 = #[] := by intro h; have := Z0_size; rw [h] at this; simp at this

set_option maxRecDepth 100000 in
set_option maxHeartbeats 400000 in
theorem sixty_calls (w : World) : Calls Try.prog 20 #[] w fun e w' => e = .returned (.agg A64) ∧ Below w.heap.size w w' := by
  have hz1 := (zero_of_info info32).1
  have hs := Z0_size
  have hn := Z0_ne
  go_enter Try.func20, Try.ntmps20
  go_wp2_with (refine wpList_store_row rfl 32 _ _ rfl w.heap.size A64 rfl rfl 32 Z0 (heap_alloc_last w _) (by rw [size32, A64_size]) (by rw [Z0_size, A64_size]) (by kernel_rfl) ?_)
  refine bodyPost_ret (results_cell_row Try.results20 _ _ w.heap.size 32 A64 (0, 0) _ rfl (setRow_heap _ _ _ _ _ _ (heap_alloc_last w _)) Try.underlying32 rfl (by rw [size32, A64_size])) rfl ?_
  exact ⟨rfl, by rw [World.setRow_alloc_new]; exact (Below.refl _ _).alloc (Nat.le_refl _) _⟩
set_option maxRecDepth 100000 in
set_option maxHeartbeats 400000 in
theorem sixteen_calls (w : World) : Calls Try.prog 25 #[] w fun e w' => e = .returned (.agg A16) ∧ Below w.heap.size w w' := by
  have hz1 := (zero_of_info info32).1
  have hs := Z0_size
  have hn := Z0_ne
  go_enter Try.func25, Try.ntmps25
  go_wp2_with (refine wpList_store_row rfl 32 _ _ rfl w.heap.size A16 rfl rfl 32 Z0 (heap_alloc_last w _) (by rw [size32, A16_size]) (by rw [Z0_size, A16_size]) (by kernel_rfl) ?_)
  refine bodyPost_ret (results_cell_row Try.results25 _ _ w.heap.size 32 A16 (0, 0) _ rfl (setRow_heap _ _ _ _ _ _ (heap_alloc_last w _)) Try.underlying32 rfl (by rw [size32, A16_size])) rfl ?_
  exact ⟨rfl, by rw [World.setRow_alloc_new]; exact (Below.refl _ _).alloc (Nat.le_refl _) _⟩

end Go.Proofs.Ytfmhpeeecejpbaa
