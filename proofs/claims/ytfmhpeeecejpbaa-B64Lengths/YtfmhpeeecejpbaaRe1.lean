/- What read has laid ahead of its loop. -/
import Derived.Test.YtfmhpeeecejpbaaNu
import Derived.Test.YtfmhpeeecejpbaaRn
namespace Go.Proofs.Ytfmhpeeecejpbaa
open Go.RowKit Go.Shelf

/-- The blocks that read's loop leaves alone. -/
def FxR (m n0 b : Nat) (k : Nat) : Prop := k = m ∨ k = n0 ∨ k = b ∨ k = n0 + 3 ∨ k = n0 + 4

/-- What read has laid ahead of its loop. -/
structure LaidR (w W7 : World) (A : Array Value) (wd m n0 b cap : Nat) (L : List Nat) : Prop where
  alph : AtA W7 m A
  rdr : Rdr W7 n0 wd 8 0 0
  out : OutB W7 (n0 + 2) m (FxR m n0 b) []
  num : Boxed W7 (n0 + 4) 35 (.slice (some ⟨b, 0, none⟩) L.length cap)
  ptr : Boxed W7 (n0 + 3) 49 (.pointer (some ⟨n0, 0, none⟩))
  cell : ∀ j, j < L.length → W7.cell? ⟨b, 0 + j, none⟩ = some (.int .u8 (nat L j : Nat))
  below : Below m w W7
  size : W7.heap.size = n0 + 5
  bl : b < n0
  ml : m < n0

theorem laidR (w W2 : World) (A : Array Value) (wd m b cap C : Nat) (X : List UInt8) (L : List Nat) (hL : L = X.map (·.toNat)) (hC : C ≤ 1000) (hm : m = w.heap.size) (hb2 : Below m w W2) (hAt : AtA W2 m A)
    (hown : W2.ownsRow (m + 2) 5 1 (.slice (some ⟨b, 0, none⟩) X.length cap) X.length (X.map encB)) (W7 : World)
    (h7 : W7 = ((((W2.alloc (.cells #[.int .u32 0, .int .u64 0, .int .u64 (wd : Int), .int .u64 8] 41)).alloc (rowB C)).alloc (.cells #[.slice (some ⟨W2.heap.size + 1, 0, none⟩) 0 C] 35)).alloc (.cells #[.pointer (some ⟨W2.heap.size, 0, none⟩)] 49)).alloc (.cells #[.slice (some ⟨b, 0, none⟩) L.length cap] 35)) :
    LaidR w W7 A wd m W2.heap.size b cap L := by
  have hLl : L.length = X.length := by rw [hL, List.length_map]
  have g7 : W2.grownBy W7 none := by
    rw [h7]; exact grown_trans (grown_trans (grown2 _ _ _) (World.grownBy_alloc _ _ none)) (grown2 _ _ _)
  have hbb := hown.lt b rfl
  have hml := hAt.lt
  refine ⟨?_, ?_, ⟨.slice (some ⟨W2.heap.size + 1, 0, none⟩) 0 C, ?_, ?_, ?_⟩, ?_, ?_, ?_, ?_, ?_, hbb.2, hml⟩
  · exact (g7.block _ hml (by simp)).trans hAt
  · rw [h7]
    exact (Below.heap_alloc _ _ _ (by simp <;> omega)).trans ((Below.heap_alloc _ _ _ (by simp <;> omega)).trans ((Below.heap_alloc _ _ _ (by simp <;> omega)).trans ((Below.heap_alloc _ _ _ (by simp)).trans (heap_alloc_last W2 _))))
  · have := Boxed.new ((W2.alloc (.cells #[.int .u32 0, .int .u64 0, .int .u64 (wd : Int), .int .u64 8] 41)).alloc (rowB C)) 35 (.slice (some ⟨W2.heap.size + 1, 0, none⟩) 0 C)
    rw [h7]; simpa using ((this.alloc _).alloc _)
  · have := own_rowB (W2.alloc (.cells #[.int .u32 0, .int .u64 0, .int .u64 (wd : Int), .int .u64 8] 41)) m C (by simp; omega) (by omega)
    rw [World.size_alloc] at this
    rw [h7]; exact ((this.alloc _).alloc _).alloc _
  · intro k hk e
    have : W2.heap.size + 1 = k := by simpa [Value.ownBlock] using e
    unfold FxR at hk
    omega
  · have := Boxed.new ((((W2.alloc (.cells #[.int .u32 0, .int .u64 0, .int .u64 (wd : Int), .int .u64 8] 41)).alloc (rowB C)).alloc (.cells #[.slice (some ⟨W2.heap.size + 1, 0, none⟩) 0 C] 35)).alloc (.cells #[.pointer (some ⟨W2.heap.size, 0, none⟩)] 49)) 35 (.slice (some ⟨b, 0, none⟩) L.length cap)
    rw [h7]; simpa using this
  · have := (Boxed.new (((W2.alloc (.cells #[.int .u32 0, .int .u64 0, .int .u64 (wd : Int), .int .u64 8] 41)).alloc (rowB C)).alloc (.cells #[.slice (some ⟨W2.heap.size + 1, 0, none⟩) 0 C] 35)) 49 (.pointer (some ⟨W2.heap.size, 0, none⟩))).alloc (.cells #[.slice (some ⟨b, 0, none⟩) L.length cap] 35)
    rw [h7]; simpa using this
  · intro j hj
    rw [hLl] at hj
    have h1 := hown.cellAt j (by omega)
    rw [Nat.zero_add, World.cell?_of_block (g7.block b hbb.2 (by simp)), h1, hL, nat, List.getElem?_map, List.getElem?_map, List.getElem?_eq_getElem hj]
    rfl
  · exact hb2.grown g7 (by omega) (fun k e => by cases e)
  · rw [h7]; simp

/-- What read hands back. -/
def RePost (wd : Nat) (g : Nat → Nat) (s : ByteArray) (w : World) (e : Ending) (w' : World) : Prop :=
  (((s.size ≤ (3200 + wd - 1) / wd ∧ allL wd g s.data.toList = true) ∧ (foldR wd 8 (s.data.toList.map fun c => g c.toNat)).2.2 < wd ∧ (foldR wd 8 (s.data.toList.map fun c => g c.toNat)).2.1 = 0) ∧
    e = .returned (.tuple #[.string ⟨((foldR wd 8 (s.data.toList.map fun c => g c.toNat)).1.map UInt8.ofNat).toArray⟩, .int .i64 0]) ∧ Below w.heap.size w w') ∨
  (¬ ((s.size ≤ (3200 + wd - 1) / wd ∧ allL wd g s.data.toList = true) ∧ (foldR wd 8 (s.data.toList.map fun c => g c.toNat)).2.2 < wd ∧ (foldR wd 8 (s.data.toList.map fun c => g c.toNat)).2.1 = 0) ∧
    e = .returned (.tuple #[.string noB, .int .i64 30]) ∧ Below w.heap.size w w')
end Go.Proofs.Ytfmhpeeecejpbaa
