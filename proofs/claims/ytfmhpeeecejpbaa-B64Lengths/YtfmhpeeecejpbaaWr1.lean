/- What write has laid ahead of its loop. -/
import Derived.Test.YtfmhpeeecejpbaaAp
namespace Go.Proofs.Ytfmhpeeecejpbaa
open Go.RowKit Go.Shelf

attribute [local go_sem] Oper.semAt_some

set_option maxRecDepth 100000 in
set_option maxHeartbeats 400000 in
theorem write_no (A : Array Value) (s : ByteArray) (w : World) (hs : 400 < s.size) : Calls Try.prog 21 #[.agg A, .string s] w fun e w' => e = .returned (.tuple #[.string noB, .int .i64 30]) ∧ Below w.heap.size w w' := by
  have hb := box_alph w A
  have hd : decide ((400 : Int) < (s.size : Int)) = true := by simp; omega
  go_enter Try.func21, Try.ntmps21
  go_wp2
  go_ret2
  exact ⟨rfl, (Below.refl _ _).alloc (Nat.le_refl _) _⟩

theorem size41 : (Try.prog.info? 41).map (·.size) = some 4 := by kernel_rfl

/-- A new row of bytes, none of them in use. -/
def rowB (n : Nat) : Obj := .cells (madeCells #[.int .u8 0] n) 5
theorem run_make_bytes (W : World) (n : Nat) (hn : n ≤ 100000) : (Instr.makeSlice 35 (.int .i64 0) (.int .i64 (n : Int))).run Try.prog W = .ok (.slice (some ⟨W.heap.size, 0, none⟩) 0 n) (W.alloc (rowB n)) := by
  obtain ⟨i0, hi, hz0, hz1, hz2⟩ := info_parts info5
  have h := run_make (P := Try.prog) W 35 5 i0 (.int .u8 0) Try.underlying35 hi hz0 .i64 .i64 0 (n : Int) (Int.le_refl _) (by omega) (by rw [hz2]; omega) (by omega)
  rw [h, hz1, Int.toNat_natCast, Nat.mul_one, rowB]
  rfl
theorem own_rowB (W : World) (m n : Nat) (hm : m ≤ W.heap.size) (hn : n ≤ 100000) : (W.alloc (rowB n)).ownsRow m 5 1 (.slice (some ⟨W.heap.size, 0, none⟩) 0 n) 0 [] :=
  World.ownsRow_made W _ n hm (by unfold maxLen; omega) (by rw [size_madeCells, Nat.mul_one])

theorem grown_bytes (W : World) (e : TypeId) (s : ByteArray) : W.grownBy (Lib.bytesWorld W e s) none :=
  ⟨rfl, rfl, rfl, by rw [Lib.bytesWorld_size]; omega, fun k hk _ => Lib.bytesWorld_at_old W e s k hk⟩
theorem nat_bytes (s : ByteArray) (j : Nat) (h : j < s.size) : nat (s.data.toList.map (·.toNat)) j = (s.data.toList.getD j 0).toNat := by
  have hl : j < s.data.toList.length := by simpa using h
  rw [nat, List.getElem?_map, List.getD, List.getElem?_eq_getElem hl]; rfl
theorem grown_none {W W' : World} (h : W.grownBy W' none) (r : Nat) : W.grownBy W' (some r) := ⟨h.os, h.tape, h.output, h.size, fun k hk _ => h.block k hk (by simp)⟩
theorem grown2 (W : World) (a b : Obj) : W.grownBy ((W.alloc a).alloc b) none := grown_trans (World.grownBy_alloc W a none) (World.grownBy_alloc _ b none)

theorem atA_own {β : Type} {B m : Nat} {A : Array Value} : OwnFrom B (fun (_ : β) W => AtA W m A) := fun _ X X' row hs hg hr =>
  (hg.block m hs.lt (fun e => by
    obtain ⟨_, o, ho, hc⟩ := hr m e.symm
    rw [show X.heap[m]? = _ from hs] at ho
    cases ho; cases hc)).trans hs

/-- What write has laid ahead of its loop. -/
structure LaidW (w W7 : World) (A : Array Value) (wd m : Nat) (s : ByteArray) (cap : Nat) : Prop where
  alph : AtA W7 m A
  rdr : Rdr W7 (m + 1) 8 wd 0 0
  out : OutB W7 (m + 4) m (fun k => k = m ∨ k = m + 1 ∨ k = m + 5 ∨ k = m + 6 ∨ k = m + 7) []
  num : Boxed W7 (m + 7) 35 (.slice (some ⟨m + 5, 0, none⟩) s.size cap)
  ptr : Boxed W7 (m + 6) 49 (.pointer (some ⟨m + 1, 0, none⟩))
  cell : ∀ j, j < s.size → W7.cell? ⟨m + 5, 0 + j, none⟩ = some (.int .u8 (nat (s.data.toList.map (·.toNat)) j : Nat))
  below : Below m w W7
  size : W7.heap.size = m + 8

theorem laidW (w : World) (A : Array Value) (wd C cap : Nat) (s : ByteArray) (hC : C ≤ 1000) (W5 W7 : World)
    (h5 : W5 = ((((w.alloc (.cells A 32)).alloc (.cells #[.int .u32 0, .int .u64 0, .int .u64 8, .int .u64 (wd : Int)] 41)).alloc (.cells A 32)).alloc (rowB C)).alloc (.cells #[.slice (some ⟨w.heap.size + 3, 0, none⟩) 0 C] 35))
    (h7 : W7 = ((Lib.bytesWorld W5 5 s).alloc (.cells #[.pointer (some ⟨w.heap.size + 1, 0, none⟩)] 49)).alloc (.cells #[.slice (some ⟨w.heap.size + 5, 0, none⟩) s.size cap] 35)) : LaidW w W7 A wd w.heap.size s cap := by
  have s5 : W5.heap.size = w.heap.size + 5 := by rw [h5]; simp
  have s6 : (Lib.bytesWorld W5 5 s).heap.size = w.heap.size + 6 := by rw [Lib.bytesWorld_size, s5]
  have g7 : W5.grownBy W7 none := by rw [h7]; exact grown_trans (grown_bytes W5 5 s) (grown2 _ _ _)
  have k7 : ∀ k, k < w.heap.size + 5 → W7.heap[k]? = W5.heap[k]? := fun k hk => g7.block k (by omega) (by simp)
  have k6 : ∀ k, k < w.heap.size + 6 → W7.heap[k]? = (Lib.bytesWorld W5 5 s).heap[k]? := fun k hk => by
    rw [h7]; exact (grown2 _ _ _).block k (by omega) (by simp)
  have b5 : Below w.heap.size w W5 := by
    rw [h5]; exact (((((Below.refl _ w).alloc (Nat.le_refl _) _).alloc (by simp) _).alloc (by simp; omega) _).alloc (by simp; omega) _).alloc (by simp; omega) _
  have hbo : Boxed W5 (w.heap.size + 4) 35 (.slice (some ⟨w.heap.size + 3, 0, none⟩) 0 C) := by
    have := Boxed.new ((((w.alloc (.cells A 32)).alloc (.cells #[.int .u32 0, .int .u64 0, .int .u64 8, .int .u64 (wd : Int)] 41)).alloc (.cells A 32)).alloc (rowB C)) 35 (.slice (some ⟨w.heap.size + 3, 0, none⟩) 0 C)
    rw [h5]; simpa using this
  have hown : W5.ownsRow w.heap.size 5 1 (.slice (some ⟨w.heap.size + 3, 0, none⟩) 0 C) 0 [] := by
    have := own_rowB (((w.alloc (.cells A 32)).alloc (.cells #[.int .u32 0, .int .u64 0, .int .u64 8, .int .u64 (wd : Int)] 41)).alloc (.cells A 32)) w.heap.size C (by simp; omega) (by omega)
    have e : (((w.alloc (.cells A 32)).alloc (.cells #[.int .u32 0, .int .u64 0, .int .u64 8, .int .u64 (wd : Int)] 41)).alloc (.cells A 32)).heap.size = w.heap.size + 3 := by simp
    rw [e] at this
    rw [h5]; exact this.alloc _
  refine ⟨?_, ?_, ⟨.slice (some ⟨w.heap.size + 3, 0, none⟩) 0 C, ?_, ?_, ?_⟩, ?_, ?_, ?_, ?_, ?_⟩
  · refine (k7 _ (by omega)).trans ?_
    rw [h5]
    exact (Below.heap_alloc _ _ _ (by simp; omega)).trans ((Below.heap_alloc _ _ _ (by simp; omega)).trans ((Below.heap_alloc _ _ _ (by simp; omega)).trans ((Below.heap_alloc _ _ _ (by simp)).trans (heap_alloc_last w _))))
  · refine (k7 _ (by omega)).trans ?_
    rw [h5]
    refine (Below.heap_alloc _ _ _ (by simp <;> omega)).trans ((Below.heap_alloc _ _ _ (by simp <;> omega)).trans ((Below.heap_alloc _ _ _ (by simp)).trans ?_))
    exact heap_alloc2_new w _ _
  · exact (k7 _ (by omega)).trans hbo
  · exact hown.kept g7 (Classical.em _)
  · intro k hk e
    have : w.heap.size + 3 = k := by simpa [Value.ownBlock] using e
    omega
  · have := Boxed.new ((Lib.bytesWorld W5 5 s).alloc (.cells #[.pointer (some ⟨w.heap.size + 1, 0, none⟩)] 49)) 35 (.slice (some ⟨w.heap.size + 5, 0, none⟩) s.size cap)
    rw [World.size_alloc, s6] at this
    rw [h7]; exact this
  · have := (Boxed.new (Lib.bytesWorld W5 5 s) 49 (.pointer (some ⟨w.heap.size + 1, 0, none⟩))).alloc (.cells #[.slice (some ⟨w.heap.size + 5, 0, none⟩) s.size cap] 35)
    rw [s6] at this
    rw [h7]; exact this
  · intro j hj
    have := Lib.bytesWorld_cell W5 5 s j hj
    rw [s5] at this
    rw [Nat.zero_add, nat_bytes s j hj, ← this]
    exact World.cell?_of_block (k6 _ (by simp))
  · exact b5.grown g7 b5.size (fun k e => by cases e)
  · rw [h7]; simp [s6]

/-- What lies behind fill, and behind the append that follows it. -/
theorem fill_app (W w1 : World) (A : Array Value) (f : Nat → Nat) (v : Value) (x m : Nat) (Z : List UInt8) (hfx : f x < 128) (hZ : Z.length ≤ 3000) (hWs : m + 8 ≤ W.heap.size)
    (hbv : Boxed W (m + 4) 35 v) (hown : W.ownsRow m 5 1 v Z.length (Z.map encB)) (hv : ∀ k, (k = m ∨ k = m + 1 ∨ k = m + 5 ∨ k = m + 6 ∨ k = m + 7) → v.ownBlock ≠ some k) (hAt : AtA W m A) (hc : W.cell? ⟨m, 1 + x, none⟩ = some (.int .i32 (f x : Int)))
    (hg : W.drew.grownBy w1 (some (m + 1))) (D : Nat) (hD : m + 8 ≤ D) (hK : W.heap[D]? = some (.deferred (some []))) :
    w1.cell? ⟨m + 4, 0, none⟩ = some v ∧ (w1.alloc (.cells #[.int .u8 (f x : Int)] 5)).cell? ⟨m + 4, 0, none⟩ = some v ∧ w1.cell? ⟨m, 1 + x, none⟩ = some (.int .i32 (f x : Int)) ∧
    ∃ g cap w', (Builtin.append_ #[35, 35] 35 #[v, .slice (some ⟨w1.heap.size, 0, none⟩) 1 1]).run Try.prog (w1.alloc (.cells #[.int .u8 (f x : Int)] 5)) = .ok (.slice (some ⟨g, 0, none⟩) (Z.length + 1) cap) w' ∧
      w'.cell? ⟨m + 4, 0, none⟩ = some v ∧ w'.frozen? ⟨m + 4, 0, none⟩ = false ∧
      Hid (OutB (w'.setCell ⟨m + 4, 0, none⟩ (.slice (some ⟨g, 0, none⟩) (Z.length + 1) cap)) (m + 4) m (fun k => k = m ∨ k = m + 1 ∨ k = m + 5 ∨ k = m + 6 ∨ k = m + 7) (Z ++ [UInt8.ofNat (f x)])) ∧
      Hid ((w'.setCell ⟨m + 4, 0, none⟩ (.slice (some ⟨g, 0, none⟩) (Z.length + 1) cap)).heap[D]? = some (.deferred (some []))) ∧ Hid (Below m W (w'.setCell ⟨m + 4, 0, none⟩ (.slice (some ⟨g, 0, none⟩) (Z.length + 1) cap))) := by
  have hg2 : W.grownBy w1 (some (m + 1)) := grown_trans (grown_drew W _) hg
  have hb1 : Boxed w1 (m + 4) 35 v := hbv.kept hg2 (by intro e; have := Option.some.inj e; omega)
  have ho1 := hown.kept hg2 (.inr (hv (m + 1) (.inr (.inl rfl))))
  have hs := hg2.size
  obtain ⟨g, cap, w', h1, h2, h3, h4, h5, h6⟩ := app_run w1 (w1.alloc (.cells #[.int .u8 (f x : Int)] 5)) v (m + 4) m (fun k => k = m ∨ k = m + 1 ∨ k = m + 5 ∨ k = m + 6 ∨ k = m + 7) Z (UInt8.ofNat (f x)) (f x : Int) (by rw [u8_nat _ (by omega)]) hZ (by omega) (by omega) (by intro k hk; omega) hb1 ho1 hv (grown_drewN _ 0 none) (by simp)
  refine ⟨hb1.cell, (hb1.alloc _).cell, (World.cell?_of_block (hg2.block m hAt.lt (by intro e; have := Option.some.inj e; omega))).trans hc, g, cap, w', h1, h2.cell, h2.frozen, h3, ?_, ?_⟩
  · exact h4.same D _ ((hg2.block D (Array.getElem?_eq_some_iff.1 hK).1 (by intro e; have := Option.some.inj e; omega)).trans hK) rfl
  · exact ((Below.refl m W).grown hg2 (by omega) (fun k e => by have := Option.some.inj e; omega)).trans h6
end Go.Proofs.Ytfmhpeeecejpbaa
