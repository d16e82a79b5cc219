/- The program's own: hasRoom, whole, parts, firstOf. -/
import Derived.Test.YtgaaiiacdeejfaaDoorQ1
import Derived.Laws.BitsLemmas
namespace Go.Proofs.YtgaaiiacdeejfaaDoor
open Go.RowKit Go.Shelf

/-- Can the argument stand in a size's bytes? -/
def room (x : Fin 4) (a : Nat) : Bool := decide (a < 256 ^ (szB x).toNat)
theorem room_eq {x : Fin 4} {n a : Nat} (hn : 256 ^ (szB x).toNat = n) (hp : 0 < n) : (((a : Int) / (n : Int)) == 0) = room x a := by
  rw [room, hn, Bool.eq_iff_iff, beq_iff_eq, decide_eq_true_eq]
  have h : ((a : Int) / (n : Int)) = ((a / n : Nat) : Int) := rfl
  rw [h]
  constructor
  · intro h0
    have h1 : a / n = 0 := by omega
    rcases Nat.div_eq_zero_iff.1 h1 with h2 | h2
    · omega
    · exact h2
  · intro h0
    rw [Nat.div_eq_of_lt h0]; rfl
set_option maxRecDepth 100000 in
set_option maxHeartbeats 600000 in
theorem hasRoom_calls (x : Fin 4) (a : Nat) (w : World) : Calls Tryd.prog 30 #[.agg #[.int .i64 (szI x), .int .i64 (szB x)], .int .u64 (a : Int)] w fun o w' => o = .returned (.bool (room x a)) ∧ Below w.heap.size w w' := by
  match x with
  | 0 =>
    simp only [szI, szB]
    go_enter Tryd.func30, Tryd.ntmps30
    go_wp2
    go_ret
    exact ⟨congrArg (fun q => Ending.returned (.bool q)) (room_eq (x := 0) (n := 256) (by decide) (by decide)), below_al (Below.refl _ _) _⟩
  | 1 =>
    simp only [szI, szB]
    go_enter Tryd.func30, Tryd.ntmps30
    go_wp2
    go_ret
    exact ⟨congrArg (fun q => Ending.returned (.bool q)) (room_eq (x := 1) (n := 65536) (by decide) (by decide)), below_al (Below.refl _ _) _⟩
  | 2 =>
    simp only [szI, szB]
    go_enter Tryd.func30, Tryd.ntmps30
    go_wp2
    go_ret
    exact ⟨congrArg (fun q => Ending.returned (.bool q)) (room_eq (x := 2) (n := 4294967296) (by decide) (by decide)), below_al (Below.refl _ _) _⟩
  | 3 =>
    simp only [szI, szB]
    go_enter Tryd.func30, Tryd.ntmps30
    go_wp2
    go_ret
    exact ⟨congrArg (fun q => Ending.returned (.bool q)) (room_eq (x := 3) (n := 18446744073709551616) (by decide) (by decide)), below_al (Below.refl _ _) _⟩
set_option maxRecDepth 100000 in
theorem whole_calls (i b : Int) (w : World) (hb : 0 ≤ b ∧ b ≤ 8) : Calls Tryd.prog 27 #[.agg #[.int .i64 i, .int .i64 b]] w fun o w' => o = .returned (.int .i64 (1 + b)) ∧ Below w.heap.size w w' := by
  obtain ⟨h1, h2⟩ := hb
  go_enter Tryd.func27, Tryd.ntmps27
  go_wp2
  go_ret
  exact ⟨rfl, below_al (Below.refl _ _) _⟩
set_option maxRecDepth 100000 in
theorem parts_calls (c : Nat) (w : World) (hc : c < 256) : Calls Tryd.prog 25 #[.int .u8 (c : Int)] w fun o w' => o = .returned (.tuple #[.int .i64 ((c / 32 : Nat) : Int), .int .i64 ((c % 32 : Nat) : Int)]) ∧ w = w' := by
  go_enter Tryd.func25, Tryd.ntmps25
  go_wp2
  go_ret2
  exact ⟨rfl, rfl⟩
theorem or_i64 (m k : Nat) (hm : m < 8) (hk : k < 32) : bits .or .i64 ((m : Int) * 32) (k : Int) = (m : Int) * 32 + k :=
  bits_join .i64 31 (by decide) (fun n h0 h1 => by rw [IntKind.wrap_i64]; omega) 5 _ _ (by omega) (by omega) (by omega) (by omega) (by omega) (by omega)
set_option maxRecDepth 100000 in
theorem firstOf_calls (m k : Nat) (w : World) (hm : m < 8) (hk : k < 32) : Calls Tryd.prog 21 #[.int .i64 (m : Int), .int .i64 (k : Int)] w fun o w' => o = .returned (.int .u8 ((32 * m + k : Nat) : Int)) ∧ w = w' := by
  have h := or_i64 m k hm hk
  go_enter Tryd.func21, Tryd.ntmps21
  go_wp2
  go_ret
  refine ⟨congrArg (fun q => Ending.returned (.int .u8 q)) ?_, rfl⟩
  omega
end Go.Proofs.YtgaaiiacdeejfaaDoor
