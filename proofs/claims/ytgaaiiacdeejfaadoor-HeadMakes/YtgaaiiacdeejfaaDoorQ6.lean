/- The program's own: argument. -/
import Derived.Test.YtgaaiiacdeejfaaDoorQ5
import Derived.Lib.ConvBytes
namespace Go.Proofs.YtgaaiiacdeejfaaDoor
open Go.RowKit

theorem val_snoc (l : List UInt8) (c : UInt8) : valL (l ++ [c]) = valL l * 256 + c.toNat := by simp [valL]
theorem val_take (l : List UInt8) (k : Nat) (h : k < l.length) : valL (l.take (k + 1)) = valL (l.take k) * 256 + (l.getD k 0).toNat := by
  rw [List.take_succ_eq_append_getElem h, val_snoc, List.getD, List.getElem?_eq_getElem h]; rfl
theorem or_u64 (A c : Nat) (hA : A < 72057594037927936) (hc : c < 256) : bits .or .u64 ((A : Int) * 256) (c : Int) = (A : Int) * 256 + c :=
  bits_join .u64 64 (by decide) (fun n h0 h1 => by rw [IntKind.wrap_u64]; omega) 8 _ _ (by omega) (by omega) (by omega) (by omega) (by omega) (by omega)

set_option maxRecDepth 100000 in
set_option maxHeartbeats 1000000 in
theorem argument_small (i b : Int) (v : Value) (w : World) (hi : 0 ≤ i) (hi2 : i < 24) : Calls Tryd.prog 28 #[.agg #[.int .i64 i, .int .i64 b], v] w fun o w' => o = .returned (.int .u64 i) ∧ Below w.heap.size w w' := by
  go_enter Tryd.func28, Tryd.ntmps28
  go_wp2
  go_ret
  exact ⟨rfl, below_al (Below.refl _ _) _⟩

set_option maxRecDepth 100000 in
set_option maxHeartbeats 1000000 in
theorem argument_big (i b : Int) (g cap : Nat) (l : List UInt8) (w : World) (hi : 24 ≤ i) (hl : l.length ≤ 8) (hg : g < w.heap.size)
    (hc : ∀ j, j < l.length → w.cell? ⟨g, j, none⟩ = some (.int .u8 ((l.getD j 0).toNat : Int))) :
    Calls Tryd.prog 28 #[.agg #[.int .i64 i, .int .i64 b], .slice (some ⟨g, 0, none⟩) l.length cap] w fun o w' => o = .returned (.int .u64 (valL l : Int)) ∧ Below w.heap.size w w' := by
  have hd : decide (i < 24) = false := by simp; omega
  have HC := Lib.hid hc
  have HL := Lib.hid hl
  obtain ⟨n, hn⟩ : ∃ n, n = l.length := ⟨_, rfl⟩
  rw [← hn]
  have HN := Lib.hid hn
  have hn8 : n ≤ 8 := by omega
  clear hc hl hn hi
  go_enter Tryd.func28, Tryd.ntmps28
  go_wp2
  go_loop [5, 16] (fun v x => ∃ (A k : Nat), v = .int .u64 (A : Int) ∧ x = .int .i64 k ∧ k ≤ n ∧ Hid (A = valL (l.take k))) (fun _ x => n - (intOf x).toNat)
  case atStart => exact ⟨0, 0, rfl, rfl, by omega, Lib.hid rfl⟩
  case round =>
    obtain ⟨A, k, rfl, rfl, hk, HA⟩ := hrel
    by_cases hlt : k < n
    · have hA : A < 72057594037927936 := by
        have h1 := val_lt (l.take k)
        rw [← HA.out, List.length_take] at h1
        have h2 : 256 ^ (min k l.length) ≤ 256 ^ 7 := Nat.pow_le_pow_right (by decide) (by omega)
        omega
      obtain ⟨c, hcc⟩ : ∃ c, c = (l.getD k 0).toNat := ⟨_, rfl⟩
      have hc2 : c < 256 := by rw [hcc]; exact (l.getD k 0).toNat_lt
      have HV := Lib.hid (show A * 256 + c = valL (l.take (k + 1)) by rw [val_take l k (by rw [← HN.out]; exact hlt), ← HA.out, ← hcc])
      have c0 : w.cell? ⟨g, k, none⟩ = some (.int .u8 (c : Int)) := by
        rw [HC.out k (by rw [← HN.out]; exact hlt), hcc]
      have hor := or_u64 A c hA hc2
      clear hcc
      go_wp2
      go_round
      case rel => exact ⟨A * 256 + c, k + 1, by rw [Int.natCast_add, Int.natCast_mul]; rfl, by go_num, by omega, HV⟩
      case measure => simp [intOf]; omega
    · obtain rfl : k = n := by omega
      go_wp2
      go_ret
      refine ⟨?_, below_al (Below.refl _ _) _⟩
      rw [HA.out, HN.out, List.take_length]
      rfl
/-- What argument answers. -/
def argV (k : Nat) (l : List UInt8) : Nat := if k < 24 then k else valL l
theorem argument_calls (k : Nat) (b : Int) (g cap : Nat) (l : List UInt8) (w : World) (hl : l.length ≤ 8) (hg : g < w.heap.size)
    (hc : ∀ j, j < l.length → w.cell? ⟨g, j, none⟩ = some (.int .u8 ((l.getD j 0).toNat : Int))) :
    Calls Tryd.prog 28 #[.agg #[.int .i64 (k : Int), .int .i64 b], .slice (some ⟨g, 0, none⟩) l.length cap] w fun o w' => o = .returned (.int .u64 (argV k l : Int)) ∧ Below w.heap.size w w' := by
  by_cases h : k < 24
  · rw [argV, if_pos h]
    exact argument_small k b _ w (by omega) (by omega)
  · rw [argV, if_neg h]
    exact argument_big k b g cap l w (by omega) hl hg hc
end Go.Proofs.YtgaaiiacdeejfaaDoor
