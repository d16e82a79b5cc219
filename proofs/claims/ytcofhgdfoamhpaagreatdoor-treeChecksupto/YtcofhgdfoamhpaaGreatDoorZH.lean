/- The document's own: fits. -/
import Derived.Test.YtcofhgdfoamhpaaGreatDoorZK
import Derived.Test.YtcofhgdfoamhpaaGreatDoorZG
import Derived.BigQuiet
namespace Go.Proofs.YtcofhgdfoamhpaaGreatDoor
open Go.RowKit

set_option maxRecDepth 100000 in
set_option maxHeartbeats 1000000 in
theorem rFits_1_1 (b neg : Bool) (dig : ByteArray) (exp : Int) (u : Nat) (wd : Int) (s : ByteArray) (A : Option Addr) (c : Nat) (w : World) : Calls Tryz.prog 30 #[.agg ((⟨1, b, neg, dig, exp, u, wd, s⟩ : Hd).cells (.slice A 0 c)), .int .i64 1] w (BolP true w) := by
  simp only [Hd.cells]
  go_enter Tryz.func30, Tryz.ntmps30
  go_wp2_with fail
  refine wp_loop_rounds 1 ?_
  rw [rounds_succ]
  go_wp2_with fail
  go_ret
  exact ⟨rfl, below_a (Below.refl _ _) _⟩
set_option maxRecDepth 100000 in
set_option maxHeartbeats 1000000 in
theorem rFits_1_2 (b neg : Bool) (dig : ByteArray) (exp : Int) (u : Nat) (wd : Int) (s : ByteArray) (A : Option Addr) (c : Nat) (w : World) : Calls Tryz.prog 30 #[.agg ((⟨1, b, neg, dig, exp, u, wd, s⟩ : Hd).cells (.slice A 0 c)), .int .i64 2] w (BolP true w) := by
  simp only [Hd.cells]
  go_enter Tryz.func30, Tryz.ntmps30
  go_wp2_with fail
  refine wp_loop_rounds 1 ?_
  rw [rounds_succ]
  go_wp2_with fail
  go_ret
  exact ⟨rfl, below_a (Below.refl _ _) _⟩
set_option maxRecDepth 100000 in
set_option maxHeartbeats 1000000 in
theorem rFits_1_3 (b neg : Bool) (dig : ByteArray) (exp : Int) (u : Nat) (wd : Int) (s : ByteArray) (A : Option Addr) (c : Nat) (w : World) : Calls Tryz.prog 30 #[.agg ((⟨1, b, neg, dig, exp, u, wd, s⟩ : Hd).cells (.slice A 0 c)), .int .i64 3] w (BolP true w) := by
  simp only [Hd.cells]
  go_enter Tryz.func30, Tryz.ntmps30
  go_wp2_with fail
  refine wp_loop_rounds 1 ?_
  rw [rounds_succ]
  go_wp2_with fail
  go_ret
  exact ⟨rfl, below_a (Below.refl _ _) _⟩
set_option maxRecDepth 100000 in
set_option maxHeartbeats 1000000 in
theorem rFits_1_4 (b neg : Bool) (dig : ByteArray) (exp : Int) (u : Nat) (wd : Int) (s : ByteArray) (A : Option Addr) (c : Nat) (w : World) : Calls Tryz.prog 30 #[.agg ((⟨1, b, neg, dig, exp, u, wd, s⟩ : Hd).cells (.slice A 0 c)), .int .i64 4] w (BolP true w) := by
  simp only [Hd.cells]
  go_enter Tryz.func30, Tryz.ntmps30
  go_wp2_with fail
  refine wp_loop_rounds 1 ?_
  rw [rounds_succ]
  go_wp2_with fail
  go_ret
  exact ⟨rfl, below_a (Below.refl _ _) _⟩
set_option maxRecDepth 100000 in
set_option maxHeartbeats 1000000 in
theorem rFits_1_lo (b neg : Bool) (dig : ByteArray) (exp : Int) (u : Nat) (wd : Int) (s : ByteArray) (n : Int) (A : Option Addr) (c : Nat) (w : World) (g1 : ¬ (1 : Int) ≤ n) : Calls Tryz.prog 30 #[.agg ((⟨1, b, neg, dig, exp, u, wd, s⟩ : Hd).cells (.slice A 0 c)), .int .i64 n] w (BolP false w) := by
  simp only [Hd.cells]
  go_enter Tryz.func30, Tryz.ntmps30
  go_wp2_with fail
  refine wp_loop_rounds 1 ?_
  rw [rounds_succ]
  go_wp2_with fail
  go_ret
  exact ⟨rfl, below_a (Below.refl _ _) _⟩
set_option maxRecDepth 100000 in
set_option maxHeartbeats 1000000 in
theorem rFits_1_hi (b neg : Bool) (dig : ByteArray) (exp : Int) (u : Nat) (wd : Int) (s : ByteArray) (n : Int) (A : Option Addr) (c : Nat) (w : World) (g1 : (1 : Int) ≤ n) (g2 : ¬ n ≤ 4) : Calls Tryz.prog 30 #[.agg ((⟨1, b, neg, dig, exp, u, wd, s⟩ : Hd).cells (.slice A 0 c)), .int .i64 n] w (BolP false w) := by
  simp only [Hd.cells]
  go_enter Tryz.func30, Tryz.ntmps30
  go_wp2_with fail
  refine wp_loop_rounds 1 ?_
  rw [rounds_succ]
  go_wp2_with fail
  go_ret
  exact ⟨rfl, below_a (Below.refl _ _) _⟩
set_option maxRecDepth 100000 in
set_option maxHeartbeats 1000000 in
theorem rFits_2_1 (b neg : Bool) (dig : ByteArray) (exp : Int) (u : Nat) (wd : Int) (s : ByteArray) (A : Option Addr) (c : Nat) (w : World) : Calls Tryz.prog 30 #[.agg ((⟨2, b, neg, dig, exp, u, wd, s⟩ : Hd).cells (.slice A 0 c)), .int .i64 1] w (BolP true w) := by
  simp only [Hd.cells]
  go_enter Tryz.func30, Tryz.ntmps30
  go_wp2_with fail
  refine wp_loop_rounds 1 ?_
  rw [rounds_succ]
  go_wp2_with fail
  go_ret
  exact ⟨rfl, below_a (Below.refl _ _) _⟩
set_option maxRecDepth 100000 in
set_option maxHeartbeats 1000000 in
theorem rFits_2_2 (b neg : Bool) (dig : ByteArray) (exp : Int) (u : Nat) (wd : Int) (s : ByteArray) (A : Option Addr) (c : Nat) (w : World) : Calls Tryz.prog 30 #[.agg ((⟨2, b, neg, dig, exp, u, wd, s⟩ : Hd).cells (.slice A 0 c)), .int .i64 2] w (BolP true w) := by
  simp only [Hd.cells]
  go_enter Tryz.func30, Tryz.ntmps30
  go_wp2_with fail
  refine wp_loop_rounds 1 ?_
  rw [rounds_succ]
  go_wp2_with fail
  go_ret
  exact ⟨rfl, below_a (Below.refl _ _) _⟩
set_option maxRecDepth 100000 in
set_option maxHeartbeats 1000000 in
theorem rFits_2_3 (b neg : Bool) (dig : ByteArray) (exp : Int) (u : Nat) (wd : Int) (s : ByteArray) (A : Option Addr) (c : Nat) (w : World) : Calls Tryz.prog 30 #[.agg ((⟨2, b, neg, dig, exp, u, wd, s⟩ : Hd).cells (.slice A 0 c)), .int .i64 3] w (BolP true w) := by
  simp only [Hd.cells]
  go_enter Tryz.func30, Tryz.ntmps30
  go_wp2_with fail
  refine wp_loop_rounds 1 ?_
  rw [rounds_succ]
  go_wp2_with fail
  go_ret
  exact ⟨rfl, below_a (Below.refl _ _) _⟩
set_option maxRecDepth 100000 in
set_option maxHeartbeats 1000000 in
theorem rFits_2_4 (b neg : Bool) (dig : ByteArray) (exp : Int) (u : Nat) (wd : Int) (s : ByteArray) (A : Option Addr) (c : Nat) (w : World) : Calls Tryz.prog 30 #[.agg ((⟨2, b, neg, dig, exp, u, wd, s⟩ : Hd).cells (.slice A 0 c)), .int .i64 4] w (BolP true w) := by
  simp only [Hd.cells]
  go_enter Tryz.func30, Tryz.ntmps30
  go_wp2_with fail
  refine wp_loop_rounds 1 ?_
  rw [rounds_succ]
  go_wp2_with fail
  go_ret
  exact ⟨rfl, below_a (Below.refl _ _) _⟩
set_option maxRecDepth 100000 in
set_option maxHeartbeats 1000000 in
theorem rFits_2_lo (b neg : Bool) (dig : ByteArray) (exp : Int) (u : Nat) (wd : Int) (s : ByteArray) (n : Int) (A : Option Addr) (c : Nat) (w : World) (g1 : ¬ (1 : Int) ≤ n) : Calls Tryz.prog 30 #[.agg ((⟨2, b, neg, dig, exp, u, wd, s⟩ : Hd).cells (.slice A 0 c)), .int .i64 n] w (BolP false w) := by
  simp only [Hd.cells]
  go_enter Tryz.func30, Tryz.ntmps30
  go_wp2_with fail
  refine wp_loop_rounds 1 ?_
  rw [rounds_succ]
  go_wp2_with fail
  go_ret
  exact ⟨rfl, below_a (Below.refl _ _) _⟩
set_option maxRecDepth 100000 in
set_option maxHeartbeats 1000000 in
theorem rFits_2_hi (b neg : Bool) (dig : ByteArray) (exp : Int) (u : Nat) (wd : Int) (s : ByteArray) (n : Int) (A : Option Addr) (c : Nat) (w : World) (g1 : (1 : Int) ≤ n) (g2 : ¬ n ≤ 4) : Calls Tryz.prog 30 #[.agg ((⟨2, b, neg, dig, exp, u, wd, s⟩ : Hd).cells (.slice A 0 c)), .int .i64 n] w (BolP false w) := by
  simp only [Hd.cells]
  go_enter Tryz.func30, Tryz.ntmps30
  go_wp2_with fail
  refine wp_loop_rounds 1 ?_
  rw [rounds_succ]
  go_wp2_with fail
  go_ret
  exact ⟨rfl, below_a (Below.refl _ _) _⟩
set_option maxRecDepth 100000 in
set_option maxHeartbeats 1000000 in
theorem rFits_5_1 (b neg : Bool) (dig : ByteArray) (exp : Int) (u : Nat) (wd : Int) (s : ByteArray) (A : Option Addr) (c : Nat) (w : World) : Calls Tryz.prog 30 #[.agg ((⟨5, b, neg, dig, exp, u, wd, s⟩ : Hd).cells (.slice A 0 c)), .int .i64 1] w (BolP true w) := by
  simp only [Hd.cells]
  go_enter Tryz.func30, Tryz.ntmps30
  go_wp2_with fail
  refine wp_loop_rounds 1 ?_
  rw [rounds_succ]
  go_wp2_with fail
  go_ret
  exact ⟨rfl, below_a (Below.refl _ _) _⟩
set_option maxRecDepth 100000 in
set_option maxHeartbeats 1000000 in
theorem rFits_5_2 (b neg : Bool) (dig : ByteArray) (exp : Int) (u : Nat) (wd : Int) (s : ByteArray) (A : Option Addr) (c : Nat) (w : World) : Calls Tryz.prog 30 #[.agg ((⟨5, b, neg, dig, exp, u, wd, s⟩ : Hd).cells (.slice A 0 c)), .int .i64 2] w (BolP true w) := by
  simp only [Hd.cells]
  go_enter Tryz.func30, Tryz.ntmps30
  go_wp2_with fail
  refine wp_loop_rounds 1 ?_
  rw [rounds_succ]
  go_wp2_with fail
  go_ret
  exact ⟨rfl, below_a (Below.refl _ _) _⟩
set_option maxRecDepth 100000 in
set_option maxHeartbeats 1000000 in
theorem rFits_5_3 (b neg : Bool) (dig : ByteArray) (exp : Int) (u : Nat) (wd : Int) (s : ByteArray) (A : Option Addr) (c : Nat) (w : World) : Calls Tryz.prog 30 #[.agg ((⟨5, b, neg, dig, exp, u, wd, s⟩ : Hd).cells (.slice A 0 c)), .int .i64 3] w (BolP true w) := by
  simp only [Hd.cells]
  go_enter Tryz.func30, Tryz.ntmps30
  go_wp2_with fail
  refine wp_loop_rounds 1 ?_
  rw [rounds_succ]
  go_wp2_with fail
  go_ret
  exact ⟨rfl, below_a (Below.refl _ _) _⟩
set_option maxRecDepth 100000 in
set_option maxHeartbeats 1000000 in
theorem rFits_5_4 (b neg : Bool) (dig : ByteArray) (exp : Int) (u : Nat) (wd : Int) (s : ByteArray) (A : Option Addr) (c : Nat) (w : World) : Calls Tryz.prog 30 #[.agg ((⟨5, b, neg, dig, exp, u, wd, s⟩ : Hd).cells (.slice A 0 c)), .int .i64 4] w (BolP true w) := by
  simp only [Hd.cells]
  go_enter Tryz.func30, Tryz.ntmps30
  go_wp2_with fail
  refine wp_loop_rounds 1 ?_
  rw [rounds_succ]
  go_wp2_with fail
  go_ret
  exact ⟨rfl, below_a (Below.refl _ _) _⟩
set_option maxRecDepth 100000 in
set_option maxHeartbeats 1000000 in
theorem rFits_5_lo (b neg : Bool) (dig : ByteArray) (exp : Int) (u : Nat) (wd : Int) (s : ByteArray) (n : Int) (A : Option Addr) (c : Nat) (w : World) (g1 : ¬ (1 : Int) ≤ n) : Calls Tryz.prog 30 #[.agg ((⟨5, b, neg, dig, exp, u, wd, s⟩ : Hd).cells (.slice A 0 c)), .int .i64 n] w (BolP false w) := by
  simp only [Hd.cells]
  go_enter Tryz.func30, Tryz.ntmps30
  go_wp2_with fail
  refine wp_loop_rounds 1 ?_
  rw [rounds_succ]
  go_wp2_with fail
  go_ret
  exact ⟨rfl, below_a (Below.refl _ _) _⟩
set_option maxRecDepth 100000 in
set_option maxHeartbeats 1000000 in
theorem rFits_5_hi (b neg : Bool) (dig : ByteArray) (exp : Int) (u : Nat) (wd : Int) (s : ByteArray) (n : Int) (A : Option Addr) (c : Nat) (w : World) (g1 : (1 : Int) ≤ n) (g2 : ¬ n ≤ 4) : Calls Tryz.prog 30 #[.agg ((⟨5, b, neg, dig, exp, u, wd, s⟩ : Hd).cells (.slice A 0 c)), .int .i64 n] w (BolP false w) := by
  simp only [Hd.cells]
  go_enter Tryz.func30, Tryz.ntmps30
  go_wp2_with fail
  refine wp_loop_rounds 1 ?_
  rw [rounds_succ]
  go_wp2_with fail
  go_ret
  exact ⟨rfl, below_a (Below.refl _ _) _⟩
set_option maxRecDepth 100000 in
set_option maxHeartbeats 1000000 in
theorem rFits_6_1 (b neg : Bool) (dig : ByteArray) (exp : Int) (u : Nat) (wd : Int) (s : ByteArray) (A : Option Addr) (c : Nat) (w : World) : Calls Tryz.prog 30 #[.agg ((⟨6, b, neg, dig, exp, u, wd, s⟩ : Hd).cells (.slice A 0 c)), .int .i64 1] w (BolP false w) := by
  simp only [Hd.cells]
  go_enter Tryz.func30, Tryz.ntmps30
  go_wp2_with fail
  refine wp_loop_rounds 1 ?_
  rw [rounds_succ]
  go_wp2_with fail
  go_ret
  exact ⟨rfl, below_a (Below.refl _ _) _⟩
set_option maxRecDepth 100000 in
set_option maxHeartbeats 1000000 in
theorem rFits_6_2 (b neg : Bool) (dig : ByteArray) (exp : Int) (u : Nat) (wd : Int) (s : ByteArray) (A : Option Addr) (c : Nat) (w : World) : Calls Tryz.prog 30 #[.agg ((⟨6, b, neg, dig, exp, u, wd, s⟩ : Hd).cells (.slice A 0 c)), .int .i64 2] w (BolP true w) := by
  simp only [Hd.cells]
  go_enter Tryz.func30, Tryz.ntmps30
  go_wp2_with fail
  refine wp_loop_rounds 1 ?_
  rw [rounds_succ]
  go_wp2_with fail
  go_ret
  exact ⟨rfl, below_a (Below.refl _ _) _⟩
set_option maxRecDepth 100000 in
set_option maxHeartbeats 1000000 in
theorem rFits_6_3 (b neg : Bool) (dig : ByteArray) (exp : Int) (u : Nat) (wd : Int) (s : ByteArray) (A : Option Addr) (c : Nat) (w : World) : Calls Tryz.prog 30 #[.agg ((⟨6, b, neg, dig, exp, u, wd, s⟩ : Hd).cells (.slice A 0 c)), .int .i64 3] w (BolP true w) := by
  simp only [Hd.cells]
  go_enter Tryz.func30, Tryz.ntmps30
  go_wp2_with fail
  refine wp_loop_rounds 1 ?_
  rw [rounds_succ]
  go_wp2_with fail
  go_ret
  exact ⟨rfl, below_a (Below.refl _ _) _⟩
set_option maxRecDepth 100000 in
set_option maxHeartbeats 1000000 in
theorem rFits_6_4 (b neg : Bool) (dig : ByteArray) (exp : Int) (u : Nat) (wd : Int) (s : ByteArray) (A : Option Addr) (c : Nat) (w : World) : Calls Tryz.prog 30 #[.agg ((⟨6, b, neg, dig, exp, u, wd, s⟩ : Hd).cells (.slice A 0 c)), .int .i64 4] w (BolP true w) := by
  simp only [Hd.cells]
  go_enter Tryz.func30, Tryz.ntmps30
  go_wp2_with fail
  refine wp_loop_rounds 1 ?_
  rw [rounds_succ]
  go_wp2_with fail
  go_ret
  exact ⟨rfl, below_a (Below.refl _ _) _⟩
set_option maxRecDepth 100000 in
set_option maxHeartbeats 1000000 in
theorem rFits_6_lo (b neg : Bool) (dig : ByteArray) (exp : Int) (u : Nat) (wd : Int) (s : ByteArray) (n : Int) (A : Option Addr) (c : Nat) (w : World) (g1 : ¬ (1 : Int) ≤ n) : Calls Tryz.prog 30 #[.agg ((⟨6, b, neg, dig, exp, u, wd, s⟩ : Hd).cells (.slice A 0 c)), .int .i64 n] w (BolP false w) := by
  simp only [Hd.cells]
  go_enter Tryz.func30, Tryz.ntmps30
  go_wp2_with fail
  refine wp_loop_rounds 1 ?_
  rw [rounds_succ]
  go_wp2_with fail
  go_ret
  exact ⟨rfl, below_a (Below.refl _ _) _⟩
set_option maxRecDepth 100000 in
set_option maxHeartbeats 1000000 in
theorem rFits_6_hi (b neg : Bool) (dig : ByteArray) (exp : Int) (u : Nat) (wd : Int) (s : ByteArray) (n : Int) (A : Option Addr) (c : Nat) (w : World) (g1 : (1 : Int) ≤ n) (g2 : ¬ n ≤ 4) : Calls Tryz.prog 30 #[.agg ((⟨6, b, neg, dig, exp, u, wd, s⟩ : Hd).cells (.slice A 0 c)), .int .i64 n] w (BolP false w) := by
  simp only [Hd.cells]
  go_enter Tryz.func30, Tryz.ntmps30
  go_wp2_with fail
  refine wp_loop_rounds 1 ?_
  rw [rounds_succ]
  go_wp2_with fail
  go_ret
  exact ⟨rfl, below_a (Below.refl _ _) _⟩
set_option maxRecDepth 100000 in
set_option maxHeartbeats 1000000 in
theorem rFits_10_1 (b neg : Bool) (dig : ByteArray) (exp : Int) (u : Nat) (wd : Int) (s : ByteArray) (A : Option Addr) (c : Nat) (w : World) : Calls Tryz.prog 30 #[.agg ((⟨10, b, neg, dig, exp, u, wd, s⟩ : Hd).cells (.slice A 0 c)), .int .i64 1] w (BolP false w) := by
  simp only [Hd.cells]
  go_enter Tryz.func30, Tryz.ntmps30
  go_wp2_with fail
  refine wp_loop_rounds 1 ?_
  rw [rounds_succ]
  go_wp2_with fail
  go_ret
  exact ⟨rfl, below_a (Below.refl _ _) _⟩
set_option maxRecDepth 100000 in
set_option maxHeartbeats 1000000 in
theorem rFits_10_2 (b neg : Bool) (dig : ByteArray) (exp : Int) (u : Nat) (wd : Int) (s : ByteArray) (A : Option Addr) (c : Nat) (w : World) : Calls Tryz.prog 30 #[.agg ((⟨10, b, neg, dig, exp, u, wd, s⟩ : Hd).cells (.slice A 0 c)), .int .i64 2] w (BolP true w) := by
  simp only [Hd.cells]
  go_enter Tryz.func30, Tryz.ntmps30
  go_wp2_with fail
  refine wp_loop_rounds 1 ?_
  rw [rounds_succ]
  go_wp2_with fail
  go_ret
  exact ⟨rfl, below_a (Below.refl _ _) _⟩
set_option maxRecDepth 100000 in
set_option maxHeartbeats 1000000 in
theorem rFits_10_3 (b neg : Bool) (dig : ByteArray) (exp : Int) (u : Nat) (wd : Int) (s : ByteArray) (A : Option Addr) (c : Nat) (w : World) : Calls Tryz.prog 30 #[.agg ((⟨10, b, neg, dig, exp, u, wd, s⟩ : Hd).cells (.slice A 0 c)), .int .i64 3] w (BolP true w) := by
  simp only [Hd.cells]
  go_enter Tryz.func30, Tryz.ntmps30
  go_wp2_with fail
  refine wp_loop_rounds 1 ?_
  rw [rounds_succ]
  go_wp2_with fail
  go_ret
  exact ⟨rfl, below_a (Below.refl _ _) _⟩
set_option maxRecDepth 100000 in
set_option maxHeartbeats 1000000 in
theorem rFits_10_4 (b neg : Bool) (dig : ByteArray) (exp : Int) (u : Nat) (wd : Int) (s : ByteArray) (A : Option Addr) (c : Nat) (w : World) : Calls Tryz.prog 30 #[.agg ((⟨10, b, neg, dig, exp, u, wd, s⟩ : Hd).cells (.slice A 0 c)), .int .i64 4] w (BolP false w) := by
  simp only [Hd.cells]
  go_enter Tryz.func30, Tryz.ntmps30
  go_wp2_with fail
  refine wp_loop_rounds 1 ?_
  rw [rounds_succ]
  go_wp2_with fail
  go_ret
  exact ⟨rfl, below_a (Below.refl _ _) _⟩
set_option maxRecDepth 100000 in
set_option maxHeartbeats 1000000 in
theorem rFits_10_lo (b neg : Bool) (dig : ByteArray) (exp : Int) (u : Nat) (wd : Int) (s : ByteArray) (n : Int) (A : Option Addr) (c : Nat) (w : World) (g1 : ¬ (1 : Int) ≤ n) : Calls Tryz.prog 30 #[.agg ((⟨10, b, neg, dig, exp, u, wd, s⟩ : Hd).cells (.slice A 0 c)), .int .i64 n] w (BolP false w) := by
  simp only [Hd.cells]
  go_enter Tryz.func30, Tryz.ntmps30
  go_wp2_with fail
  refine wp_loop_rounds 1 ?_
  rw [rounds_succ]
  go_wp2_with fail
  go_ret
  exact ⟨rfl, below_a (Below.refl _ _) _⟩
set_option maxRecDepth 100000 in
set_option maxHeartbeats 1000000 in
theorem rFits_10_hi (b neg : Bool) (dig : ByteArray) (exp : Int) (u : Nat) (wd : Int) (s : ByteArray) (n : Int) (A : Option Addr) (c : Nat) (w : World) (g1 : (1 : Int) ≤ n) (g2 : ¬ n ≤ 4) : Calls Tryz.prog 30 #[.agg ((⟨10, b, neg, dig, exp, u, wd, s⟩ : Hd).cells (.slice A 0 c)), .int .i64 n] w (BolP false w) := by
  simp only [Hd.cells]
  go_enter Tryz.func30, Tryz.ntmps30
  go_wp2_with fail
  refine wp_loop_rounds 1 ?_
  rw [rounds_succ]
  go_wp2_with fail
  go_ret
  exact ⟨rfl, below_a (Below.refl _ _) _⟩
set_option maxRecDepth 100000 in
set_option maxHeartbeats 1000000 in
theorem rFits_11_1 (b neg : Bool) (dig : ByteArray) (exp : Int) (u : Nat) (wd : Int) (s : ByteArray) (A : Option Addr) (c : Nat) (w : World) : Calls Tryz.prog 30 #[.agg ((⟨11, b, neg, dig, exp, u, wd, s⟩ : Hd).cells (.slice A 0 c)), .int .i64 1] w (BolP false w) := by
  simp only [Hd.cells]
  go_enter Tryz.func30, Tryz.ntmps30
  go_wp2_with fail
  refine wp_loop_rounds 1 ?_
  rw [rounds_succ]
  go_wp2_with fail
  go_ret
  exact ⟨rfl, below_a (Below.refl _ _) _⟩
set_option maxRecDepth 100000 in
set_option maxHeartbeats 1000000 in
theorem rFits_11_2 (b neg : Bool) (dig : ByteArray) (exp : Int) (u : Nat) (wd : Int) (s : ByteArray) (A : Option Addr) (c : Nat) (w : World) : Calls Tryz.prog 30 #[.agg ((⟨11, b, neg, dig, exp, u, wd, s⟩ : Hd).cells (.slice A 0 c)), .int .i64 2] w (BolP false w) := by
  simp only [Hd.cells]
  go_enter Tryz.func30, Tryz.ntmps30
  go_wp2_with fail
  refine wp_loop_rounds 1 ?_
  rw [rounds_succ]
  go_wp2_with fail
  go_ret
  exact ⟨rfl, below_a (Below.refl _ _) _⟩
set_option maxRecDepth 100000 in
set_option maxHeartbeats 1000000 in
theorem rFits_11_3 (b neg : Bool) (dig : ByteArray) (exp : Int) (u : Nat) (wd : Int) (s : ByteArray) (A : Option Addr) (c : Nat) (w : World) : Calls Tryz.prog 30 #[.agg ((⟨11, b, neg, dig, exp, u, wd, s⟩ : Hd).cells (.slice A 0 c)), .int .i64 3] w (BolP false w) := by
  simp only [Hd.cells]
  go_enter Tryz.func30, Tryz.ntmps30
  go_wp2_with fail
  refine wp_loop_rounds 1 ?_
  rw [rounds_succ]
  go_wp2_with fail
  go_ret
  exact ⟨rfl, below_a (Below.refl _ _) _⟩
set_option maxRecDepth 100000 in
set_option maxHeartbeats 1000000 in
theorem rFits_11_4 (b neg : Bool) (dig : ByteArray) (exp : Int) (u : Nat) (wd : Int) (s : ByteArray) (A : Option Addr) (c : Nat) (w : World) : Calls Tryz.prog 30 #[.agg ((⟨11, b, neg, dig, exp, u, wd, s⟩ : Hd).cells (.slice A 0 c)), .int .i64 4] w (BolP true w) := by
  simp only [Hd.cells]
  go_enter Tryz.func30, Tryz.ntmps30
  go_wp2_with fail
  refine wp_loop_rounds 1 ?_
  rw [rounds_succ]
  go_wp2_with fail
  go_ret
  exact ⟨rfl, below_a (Below.refl _ _) _⟩
set_option maxRecDepth 100000 in
set_option maxHeartbeats 1000000 in
theorem rFits_11_lo (b neg : Bool) (dig : ByteArray) (exp : Int) (u : Nat) (wd : Int) (s : ByteArray) (n : Int) (A : Option Addr) (c : Nat) (w : World) (g1 : ¬ (1 : Int) ≤ n) : Calls Tryz.prog 30 #[.agg ((⟨11, b, neg, dig, exp, u, wd, s⟩ : Hd).cells (.slice A 0 c)), .int .i64 n] w (BolP false w) := by
  simp only [Hd.cells]
  go_enter Tryz.func30, Tryz.ntmps30
  go_wp2_with fail
  refine wp_loop_rounds 1 ?_
  rw [rounds_succ]
  go_wp2_with fail
  go_ret
  exact ⟨rfl, below_a (Below.refl _ _) _⟩
set_option maxRecDepth 100000 in
set_option maxHeartbeats 1000000 in
theorem rFits_11_hi (b neg : Bool) (dig : ByteArray) (exp : Int) (u : Nat) (wd : Int) (s : ByteArray) (n : Int) (A : Option Addr) (c : Nat) (w : World) (g1 : (1 : Int) ≤ n) (g2 : ¬ n ≤ 4) : Calls Tryz.prog 30 #[.agg ((⟨11, b, neg, dig, exp, u, wd, s⟩ : Hd).cells (.slice A 0 c)), .int .i64 n] w (BolP false w) := by
  simp only [Hd.cells]
  go_enter Tryz.func30, Tryz.ntmps30
  go_wp2_with fail
  refine wp_loop_rounds 1 ?_
  rw [rounds_succ]
  go_wp2_with fail
  go_ret
  exact ⟨rfl, below_a (Below.refl _ _) _⟩
set_option maxRecDepth 100000 in
set_option maxHeartbeats 1000000 in
theorem rFits_3_1 (b neg : Bool) (dig : ByteArray) (exp : Int) (u : Nat) (wd : Int) (s : ByteArray) (A : Option Addr) (c : Nat) (w : World) (R : Option (Bool × Nat)) (hTo : ∀ W, Calls Tryz.prog 43 #[.agg #[.bool neg, .string dig, .int .i64 exp]] W (ToP R W)) : Calls Tryz.prog 30 #[.agg ((⟨3, b, neg, dig, exp, u, wd, s⟩ : Hd).cells (.slice A 0 c)), .int .i64 1] w (BolP true w) := by
  have HTo := Lib.hid hTo
  clear hTo
  have HX := Lib.hid (Nx.new w ⟨3, b, neg, dig, exp, u, wd, s⟩ (.slice A 0 c))
  simp only [Hd.cells]
  go_enter Tryz.func30, Tryz.ntmps30
  go_wp2_with fail
  refine (HTo.out _).mono ?_
  rintro o w1 ⟨rfl, hb1⟩
  replace HX := Lib.hid (HX.out.below hb1)
  have HB := Lib.hid (below_nx (below_a (Below.refl _ _) _) hb1)
  clear hb1 HTo
  obtain ⟨y0, y1, y2, y3, y4, y5, y6, y7, y8⟩ := HX.out.nine
  go_wp2_with fail
  refine wp_loop_rounds 1 ?_
  rw [rounds_succ]
  go_wp2_with fail
  go_ret
  exact ⟨rfl, HB.out⟩
set_option maxRecDepth 100000 in
set_option maxHeartbeats 1000000 in
theorem rFits_3_2 (b neg : Bool) (dig : ByteArray) (exp : Int) (u : Nat) (wd : Int) (s : ByteArray) (A : Option Addr) (c : Nat) (w : World) (R : Option (Bool × Nat)) (hTo : ∀ W, Calls Tryz.prog 43 #[.agg #[.bool neg, .string dig, .int .i64 exp]] W (ToP R W)) : Calls Tryz.prog 30 #[.agg ((⟨3, b, neg, dig, exp, u, wd, s⟩ : Hd).cells (.slice A 0 c)), .int .i64 2] w (BolP R.isSome w) := by
  have HTo := Lib.hid hTo
  clear hTo
  have HX := Lib.hid (Nx.new w ⟨3, b, neg, dig, exp, u, wd, s⟩ (.slice A 0 c))
  simp only [Hd.cells]
  go_enter Tryz.func30, Tryz.ntmps30
  go_wp2_with fail
  refine (HTo.out _).mono ?_
  rintro o w1 ⟨rfl, hb1⟩
  replace HX := Lib.hid (HX.out.below hb1)
  have HB := Lib.hid (below_nx (below_a (Below.refl _ _) _) hb1)
  clear hb1 HTo
  obtain ⟨y0, y1, y2, y3, y4, y5, y6, y7, y8⟩ := HX.out.nine
  obtain ⟨x, hx⟩ : ∃ x, x = R.isSome := ⟨_, rfl⟩
  rw [← hx]
  have HV := Lib.hid hx.symm
  clear hx
  cases x with
  | true =>
    go_wp2_with fail
    refine wp_loop_rounds 1 ?_
    rw [rounds_succ]
    go_wp2_with fail
    go_ret
    exact ⟨by first | rfl | (rw [HV.out]; rfl) | (rw [HV.out]; simp [*]; done), HB.out⟩
  | false =>
    go_wp2_with fail
    refine wp_loop_rounds 1 ?_
    rw [rounds_succ]
    go_wp2_with fail
    go_ret
    exact ⟨by first | rfl | (rw [HV.out]; rfl) | (rw [HV.out]; simp [*]; done), HB.out⟩
set_option maxRecDepth 100000 in
set_option maxHeartbeats 1000000 in
theorem rFits_3_3 (b neg : Bool) (dig : ByteArray) (exp : Int) (u : Nat) (wd : Int) (s : ByteArray) (A : Option Addr) (c : Nat) (w : World) (R : Option (Bool × Nat)) (hTo : ∀ W, Calls Tryz.prog 43 #[.agg #[.bool neg, .string dig, .int .i64 exp]] W (ToP R W)) : Calls Tryz.prog 30 #[.agg ((⟨3, b, neg, dig, exp, u, wd, s⟩ : Hd).cells (.slice A 0 c)), .int .i64 3] w (BolP R.isSome w) := by
  have HTo := Lib.hid hTo
  clear hTo
  have HX := Lib.hid (Nx.new w ⟨3, b, neg, dig, exp, u, wd, s⟩ (.slice A 0 c))
  simp only [Hd.cells]
  go_enter Tryz.func30, Tryz.ntmps30
  go_wp2_with fail
  refine (HTo.out _).mono ?_
  rintro o w1 ⟨rfl, hb1⟩
  replace HX := Lib.hid (HX.out.below hb1)
  have HB := Lib.hid (below_nx (below_a (Below.refl _ _) _) hb1)
  clear hb1 HTo
  obtain ⟨y0, y1, y2, y3, y4, y5, y6, y7, y8⟩ := HX.out.nine
  obtain ⟨x, hx⟩ : ∃ x, x = R.isSome := ⟨_, rfl⟩
  rw [← hx]
  have HV := Lib.hid hx.symm
  clear hx
  cases x with
  | true =>
    go_wp2_with fail
    refine wp_loop_rounds 1 ?_
    rw [rounds_succ]
    go_wp2_with fail
    go_ret
    exact ⟨by first | rfl | (rw [HV.out]; rfl) | (rw [HV.out]; simp [*]; done), HB.out⟩
  | false =>
    go_wp2_with fail
    refine wp_loop_rounds 1 ?_
    rw [rounds_succ]
    go_wp2_with fail
    go_ret
    exact ⟨by first | rfl | (rw [HV.out]; rfl) | (rw [HV.out]; simp [*]; done), HB.out⟩
set_option maxRecDepth 100000 in
set_option maxHeartbeats 1000000 in
theorem rFits_3_4 (b neg : Bool) (dig : ByteArray) (exp : Int) (u : Nat) (wd : Int) (s : ByteArray) (A : Option Addr) (c : Nat) (w : World) (R : Option (Bool × Nat)) (hTo : ∀ W, Calls Tryz.prog 43 #[.agg #[.bool neg, .string dig, .int .i64 exp]] W (ToP R W)) : Calls Tryz.prog 30 #[.agg ((⟨3, b, neg, dig, exp, u, wd, s⟩ : Hd).cells (.slice A 0 c)), .int .i64 4] w (BolP (R.isSome && (!tN R || decide (tK R ≤ 9223372036854775808))) w) := by
  have HTo := Lib.hid hTo
  clear hTo
  have HX := Lib.hid (Nx.new w ⟨3, b, neg, dig, exp, u, wd, s⟩ (.slice A 0 c))
  simp only [Hd.cells]
  go_enter Tryz.func30, Tryz.ntmps30
  go_wp2_with fail
  refine (HTo.out _).mono ?_
  rintro o w1 ⟨rfl, hb1⟩
  replace HX := Lib.hid (HX.out.below hb1)
  have HB := Lib.hid (below_nx (below_a (Below.refl _ _) _) hb1)
  clear hb1 HTo
  obtain ⟨y0, y1, y2, y3, y4, y5, y6, y7, y8⟩ := HX.out.nine
  obtain ⟨x, hx⟩ : ∃ x, x = R.isSome := ⟨_, rfl⟩
  obtain ⟨y, hy⟩ : ∃ y, y = tN R := ⟨_, rfl⟩
  obtain ⟨z, hz⟩ : ∃ z, z = tK R := ⟨_, rfl⟩
  have HV : Hid ((R.isSome && (!tN R || decide (tK R ≤ 9223372036854775808))) = (x && (!y || decide (z ≤ 9223372036854775808)))) := Lib.hid (by rw [hx, hy, hz])
  rw [← hx, ← hy, ← hz]
  clear hx hy hz
  cases x with
  | true =>
    cases y with
    | true =>
      by_cases g : z ≤ 9223372036854775808
      · have gi : (z : Int) ≤ 9223372036854775808 := by omega
        rw [decide_eq_true g] at HV
        go_wp2_with fail
        refine wp_loop_rounds 1 ?_
        rw [rounds_succ]
        go_wp2_with fail
        go_ret
        exact ⟨by first | rfl | (rw [HV.out]; rfl) | (rw [HV.out]; simp [*]; done), HB.out⟩
      · have gi : ¬ (z : Int) ≤ 9223372036854775808 := by omega
        rw [decide_eq_false g] at HV
        go_wp2_with fail
        refine wp_loop_rounds 1 ?_
        rw [rounds_succ]
        go_wp2_with fail
        go_ret
        exact ⟨by first | rfl | (rw [HV.out]; rfl) | (rw [HV.out]; simp [*]; done), HB.out⟩
    | false =>
      go_wp2_with fail
      refine wp_loop_rounds 1 ?_
      rw [rounds_succ]
      go_wp2_with fail
      go_ret
      exact ⟨by first | rfl | (rw [HV.out]; rfl) | (rw [HV.out]; simp [*]; done), HB.out⟩
  | false =>
    go_wp2_with fail
    refine wp_loop_rounds 1 ?_
    rw [rounds_succ]
    go_wp2_with fail
    go_ret
    exact ⟨by first | rfl | (rw [HV.out]; rfl) | (rw [HV.out]; simp [*]; done), HB.out⟩
set_option maxRecDepth 100000 in
set_option maxHeartbeats 1000000 in
theorem rFits_3_lo (b neg : Bool) (dig : ByteArray) (exp : Int) (u : Nat) (wd : Int) (s : ByteArray) (n : Int) (A : Option Addr) (c : Nat) (w : World) (g1 : ¬ (1 : Int) ≤ n) (R : Option (Bool × Nat)) (hTo : ∀ W, Calls Tryz.prog 43 #[.agg #[.bool neg, .string dig, .int .i64 exp]] W (ToP R W)) : Calls Tryz.prog 30 #[.agg ((⟨3, b, neg, dig, exp, u, wd, s⟩ : Hd).cells (.slice A 0 c)), .int .i64 n] w (BolP false w) := by
  have HTo := Lib.hid hTo
  clear hTo
  have HX := Lib.hid (Nx.new w ⟨3, b, neg, dig, exp, u, wd, s⟩ (.slice A 0 c))
  simp only [Hd.cells]
  go_enter Tryz.func30, Tryz.ntmps30
  go_wp2_with fail
  refine (HTo.out _).mono ?_
  rintro o w1 ⟨rfl, hb1⟩
  replace HX := Lib.hid (HX.out.below hb1)
  have HB := Lib.hid (below_nx (below_a (Below.refl _ _) _) hb1)
  clear hb1 HTo
  obtain ⟨y0, y1, y2, y3, y4, y5, y6, y7, y8⟩ := HX.out.nine
  go_wp2_with fail
  refine wp_loop_rounds 1 ?_
  rw [rounds_succ]
  go_wp2_with fail
  go_ret
  exact ⟨rfl, HB.out⟩
set_option maxRecDepth 100000 in
set_option maxHeartbeats 1000000 in
theorem rFits_3_hi (b neg : Bool) (dig : ByteArray) (exp : Int) (u : Nat) (wd : Int) (s : ByteArray) (n : Int) (A : Option Addr) (c : Nat) (w : World) (g1 : (1 : Int) ≤ n) (g2 : ¬ n ≤ 4) (R : Option (Bool × Nat)) (hTo : ∀ W, Calls Tryz.prog 43 #[.agg #[.bool neg, .string dig, .int .i64 exp]] W (ToP R W)) : Calls Tryz.prog 30 #[.agg ((⟨3, b, neg, dig, exp, u, wd, s⟩ : Hd).cells (.slice A 0 c)), .int .i64 n] w (BolP false w) := by
  have HTo := Lib.hid hTo
  clear hTo
  have HX := Lib.hid (Nx.new w ⟨3, b, neg, dig, exp, u, wd, s⟩ (.slice A 0 c))
  simp only [Hd.cells]
  go_enter Tryz.func30, Tryz.ntmps30
  go_wp2_with fail
  refine (HTo.out _).mono ?_
  rintro o w1 ⟨rfl, hb1⟩
  replace HX := Lib.hid (HX.out.below hb1)
  have HB := Lib.hid (below_nx (below_a (Below.refl _ _) _) hb1)
  clear hb1 HTo
  obtain ⟨y0, y1, y2, y3, y4, y5, y6, y7, y8⟩ := HX.out.nine
  go_wp2_with fail
  refine wp_loop_rounds 1 ?_
  rw [rounds_succ]
  go_wp2_with fail
  go_ret
  exact ⟨rfl, HB.out⟩
set_option maxRecDepth 100000 in
set_option maxHeartbeats 2000000 in
theorem rFits_4_1 (b neg : Bool) (dig : ByteArray) (exp : Int) (u : Nat) (wd : Int) (s : ByteArray) (A : Option Addr) (c : Nat) (w : World) (O : Option Nat) (hWi : ∀ W, Calls Tryz.prog 41 #[.int .u64 (u : Int), .int .i64 wd] W (WidP O W)) : Calls Tryz.prog 30 #[.agg ((⟨4, b, neg, dig, exp, u, wd, s⟩ : Hd).cells (.slice A 0 c)), .int .i64 1] w (BolP false w) := by
  have HWi := Lib.hid hWi
  clear hWi
  have HX := Lib.hid (Nx.new w ⟨4, b, neg, dig, exp, u, wd, s⟩ (.slice A 0 c))
  simp only [Hd.cells]
  go_enter Tryz.func30, Tryz.ntmps30
  go_wp2_with fail
  refine (HWi.out _).mono ?_
  rintro o w1 ⟨rfl, hb1⟩
  replace HX := Lib.hid (HX.out.below hb1)
  have HB := Lib.hid (below_nx (below_a (Below.refl _ _) _) hb1)
  clear hb1 HWi
  obtain ⟨x, hx⟩ : ∃ x : Nat, x = O.getD 0 := ⟨_, rfl⟩
  obtain ⟨z, hz⟩ : ∃ z : Int, z = (if O.isSome = true then 0 else 2) := ⟨_, rfl⟩
  rw [← hx, ← hz]
  clear hx hz
  have y6 := HX.out.nine.2.2.2.2.2.2.1
  go_wp2_with fail
  go_quiet (fail)
  have HB2 := Lib.hid (below_drewN HB.out nq)
  have c8 : (w1.drewN nq).cell? ⟨w.heap.size, 8, none⟩ = some (.slice A 0 c) := by rw [World.cell?_drewN]; exact HX.out.c8
  clear y6
  go_wp2_with fail
  refine wp_loop_rounds 1 ?_
  rw [rounds_succ]
  go_wp2_with fail
  go_ret
  exact ⟨by first | rfl | (show Ending.returned (Value.bool _) = Ending.returned (Value.bool _); simp [*]), HB2.out⟩
set_option maxRecDepth 100000 in
set_option maxHeartbeats 2000000 in
theorem rFits_4_2 (b neg : Bool) (dig : ByteArray) (exp : Int) (u : Nat) (wd : Int) (s : ByteArray) (A : Option Addr) (c : Nat) (w : World) (O : Option Nat) (hWi : ∀ W, Calls Tryz.prog 41 #[.int .u64 (u : Int), .int .i64 wd] W (WidP O W)) : Calls Tryz.prog 30 #[.agg ((⟨4, b, neg, dig, exp, u, wd, s⟩ : Hd).cells (.slice A 0 c)), .int .i64 2] w (BolP true w) := by
  have HWi := Lib.hid hWi
  clear hWi
  have HX := Lib.hid (Nx.new w ⟨4, b, neg, dig, exp, u, wd, s⟩ (.slice A 0 c))
  simp only [Hd.cells]
  go_enter Tryz.func30, Tryz.ntmps30
  go_wp2_with fail
  refine (HWi.out _).mono ?_
  rintro o w1 ⟨rfl, hb1⟩
  replace HX := Lib.hid (HX.out.below hb1)
  have HB := Lib.hid (below_nx (below_a (Below.refl _ _) _) hb1)
  clear hb1 HWi
  obtain ⟨x, hx⟩ : ∃ x : Nat, x = O.getD 0 := ⟨_, rfl⟩
  obtain ⟨z, hz⟩ : ∃ z : Int, z = (if O.isSome = true then 0 else 2) := ⟨_, rfl⟩
  rw [← hx, ← hz]
  clear hx hz
  have y6 := HX.out.nine.2.2.2.2.2.2.1
  go_wp2_with fail
  go_quiet (fail)
  have HB2 := Lib.hid (below_drewN HB.out nq)
  have c8 : (w1.drewN nq).cell? ⟨w.heap.size, 8, none⟩ = some (.slice A 0 c) := by rw [World.cell?_drewN]; exact HX.out.c8
  clear y6
  go_wp2_with fail
  refine wp_loop_rounds 1 ?_
  rw [rounds_succ]
  go_wp2_with fail
  go_ret
  exact ⟨by first | rfl | (show Ending.returned (Value.bool _) = Ending.returned (Value.bool _); simp [*]), HB2.out⟩
set_option maxRecDepth 100000 in
set_option maxHeartbeats 2000000 in
theorem rFits_4_3 (b neg : Bool) (dig : ByteArray) (exp : Int) (u : Nat) (wd : Int) (s : ByteArray) (A : Option Addr) (c : Nat) (w : World) (O : Option Nat) (hWi : ∀ W, Calls Tryz.prog 41 #[.int .u64 (u : Int), .int .i64 wd] W (WidP O W)) (L : Int) (hLe : ∀ W, Calls Tryz.prog 42 #[.int .u64 ((O.getD 0 : Nat) : Int)] W fun o w' => o = .returned (.int .i64 L) ∧ ∃ m, w' = W.drewN m) : Calls Tryz.prog 30 #[.agg ((⟨4, b, neg, dig, exp, u, wd, s⟩ : Hd).cells (.slice A 0 c)), .int .i64 3] w (BolP (L == wd) w) := by
  have HWi := Lib.hid hWi
  clear hWi
  have HLe := Lib.hid hLe
  clear hLe
  have HX := Lib.hid (Nx.new w ⟨4, b, neg, dig, exp, u, wd, s⟩ (.slice A 0 c))
  simp only [Hd.cells]
  go_enter Tryz.func30, Tryz.ntmps30
  go_wp2_with fail
  refine (HWi.out _).mono ?_
  rintro o w1 ⟨rfl, hb1⟩
  replace HX := Lib.hid (HX.out.below hb1)
  have HB := Lib.hid (below_nx (below_a (Below.refl _ _) _) hb1)
  clear hb1 HWi
  obtain ⟨x, hx⟩ : ∃ x : Nat, x = O.getD 0 := ⟨_, rfl⟩
  obtain ⟨z, hz⟩ : ∃ z : Int, z = (if O.isSome = true then 0 else 2) := ⟨_, rfl⟩
  rw [← hx, ← hz]
  rw [← hx] at HLe
  clear hx hz
  have y6 := HX.out.nine.2.2.2.2.2.2.1
  go_wp2_with fail
  go_quiet (first | (go_at_call 42; exact Calls.quiet_of (HLe.out _)))
  have HB2 := Lib.hid (below_drewN HB.out nq)
  have c8 : (w1.drewN nq).cell? ⟨w.heap.size, 8, none⟩ = some (.slice A 0 c) := by rw [World.cell?_drewN]; exact HX.out.c8
  clear y6
  go_wp2_with fail
  refine wp_loop_rounds 1 ?_
  rw [rounds_succ]
  go_wp2_with fail
  go_ret
  exact ⟨by first | rfl | (show Ending.returned (Value.bool _) = Ending.returned (Value.bool _); simp [*]), HB2.out⟩
set_option maxRecDepth 100000 in
set_option maxHeartbeats 2000000 in
theorem rFits_4_4 (b neg : Bool) (dig : ByteArray) (exp : Int) (u : Nat) (wd : Int) (s : ByteArray) (A : Option Addr) (c : Nat) (w : World) (O : Option Nat) (hWi : ∀ W, Calls Tryz.prog 41 #[.int .u64 (u : Int), .int .i64 wd] W (WidP O W)) : Calls Tryz.prog 30 #[.agg ((⟨4, b, neg, dig, exp, u, wd, s⟩ : Hd).cells (.slice A 0 c)), .int .i64 4] w (BolP (decide (¬ wd = 16)) w) := by
  have HWi := Lib.hid hWi
  clear hWi
  have HX := Lib.hid (Nx.new w ⟨4, b, neg, dig, exp, u, wd, s⟩ (.slice A 0 c))
  simp only [Hd.cells]
  go_enter Tryz.func30, Tryz.ntmps30
  go_wp2_with fail
  refine (HWi.out _).mono ?_
  rintro o w1 ⟨rfl, hb1⟩
  replace HX := Lib.hid (HX.out.below hb1)
  have HB := Lib.hid (below_nx (below_a (Below.refl _ _) _) hb1)
  clear hb1 HWi
  obtain ⟨x, hx⟩ : ∃ x : Nat, x = O.getD 0 := ⟨_, rfl⟩
  obtain ⟨z, hz⟩ : ∃ z : Int, z = (if O.isSome = true then 0 else 2) := ⟨_, rfl⟩
  rw [← hx, ← hz]
  clear hx hz
  have y6 := HX.out.nine.2.2.2.2.2.2.1
  by_cases g : wd = 16
  · subst g
    go_wp2_with fail
    go_quiet (fail)
    have HB2 := Lib.hid (below_drewN HB.out nq)
    have c8 : (w1.drewN nq).cell? ⟨w.heap.size, 8, none⟩ = some (.slice A 0 c) := by rw [World.cell?_drewN]; exact HX.out.c8
    clear y6
    go_wp2_with fail
    refine wp_loop_rounds 1 ?_
    rw [rounds_succ]
    go_wp2_with fail
    go_ret
    exact ⟨by first | rfl | (show Ending.returned (Value.bool _) = Ending.returned (Value.bool _); simp [*]), HB2.out⟩
  · skip
    go_wp2_with fail
    go_quiet (fail)
    have HB2 := Lib.hid (below_drewN HB.out nq)
    have c8 : (w1.drewN nq).cell? ⟨w.heap.size, 8, none⟩ = some (.slice A 0 c) := by rw [World.cell?_drewN]; exact HX.out.c8
    clear y6
    go_wp2_with fail
    refine wp_loop_rounds 1 ?_
    rw [rounds_succ]
    go_wp2_with fail
    go_ret
    exact ⟨by first | rfl | (show Ending.returned (Value.bool _) = Ending.returned (Value.bool _); simp [*]), HB2.out⟩
set_option maxRecDepth 100000 in
set_option maxHeartbeats 2000000 in
theorem rFits_4_lo (b neg : Bool) (dig : ByteArray) (exp : Int) (u : Nat) (wd : Int) (s : ByteArray) (n : Int) (A : Option Addr) (c : Nat) (w : World) (g1 : ¬ (1 : Int) ≤ n) (O : Option Nat) (hWi : ∀ W, Calls Tryz.prog 41 #[.int .u64 (u : Int), .int .i64 wd] W (WidP O W)) : Calls Tryz.prog 30 #[.agg ((⟨4, b, neg, dig, exp, u, wd, s⟩ : Hd).cells (.slice A 0 c)), .int .i64 n] w (BolP false w) := by
  have HWi := Lib.hid hWi
  clear hWi
  have HX := Lib.hid (Nx.new w ⟨4, b, neg, dig, exp, u, wd, s⟩ (.slice A 0 c))
  simp only [Hd.cells]
  go_enter Tryz.func30, Tryz.ntmps30
  go_wp2_with fail
  refine (HWi.out _).mono ?_
  rintro o w1 ⟨rfl, hb1⟩
  replace HX := Lib.hid (HX.out.below hb1)
  have HB := Lib.hid (below_nx (below_a (Below.refl _ _) _) hb1)
  clear hb1 HWi
  obtain ⟨x, hx⟩ : ∃ x : Nat, x = O.getD 0 := ⟨_, rfl⟩
  obtain ⟨z, hz⟩ : ∃ z : Int, z = (if O.isSome = true then 0 else 2) := ⟨_, rfl⟩
  rw [← hx, ← hz]
  clear hx hz
  have y6 := HX.out.nine.2.2.2.2.2.2.1
  go_wp2_with fail
  go_quiet (fail)
  have HB2 := Lib.hid (below_drewN HB.out nq)
  have c8 : (w1.drewN nq).cell? ⟨w.heap.size, 8, none⟩ = some (.slice A 0 c) := by rw [World.cell?_drewN]; exact HX.out.c8
  clear y6
  go_wp2_with fail
  refine wp_loop_rounds 1 ?_
  rw [rounds_succ]
  go_wp2_with fail
  go_ret
  exact ⟨by first | rfl | (show Ending.returned (Value.bool _) = Ending.returned (Value.bool _); simp [*]), HB2.out⟩
set_option maxRecDepth 100000 in
set_option maxHeartbeats 2000000 in
theorem rFits_4_hi (b neg : Bool) (dig : ByteArray) (exp : Int) (u : Nat) (wd : Int) (s : ByteArray) (n : Int) (A : Option Addr) (c : Nat) (w : World) (g1 : (1 : Int) ≤ n) (g2 : ¬ n ≤ 4) (O : Option Nat) (hWi : ∀ W, Calls Tryz.prog 41 #[.int .u64 (u : Int), .int .i64 wd] W (WidP O W)) : Calls Tryz.prog 30 #[.agg ((⟨4, b, neg, dig, exp, u, wd, s⟩ : Hd).cells (.slice A 0 c)), .int .i64 n] w (BolP false w) := by
  have HWi := Lib.hid hWi
  clear hWi
  have HX := Lib.hid (Nx.new w ⟨4, b, neg, dig, exp, u, wd, s⟩ (.slice A 0 c))
  simp only [Hd.cells]
  go_enter Tryz.func30, Tryz.ntmps30
  go_wp2_with fail
  refine (HWi.out _).mono ?_
  rintro o w1 ⟨rfl, hb1⟩
  replace HX := Lib.hid (HX.out.below hb1)
  have HB := Lib.hid (below_nx (below_a (Below.refl _ _) _) hb1)
  clear hb1 HWi
  obtain ⟨x, hx⟩ : ∃ x : Nat, x = O.getD 0 := ⟨_, rfl⟩
  obtain ⟨z, hz⟩ : ∃ z : Int, z = (if O.isSome = true then 0 else 2) := ⟨_, rfl⟩
  rw [← hx, ← hz]
  clear hx hz
  have y6 := HX.out.nine.2.2.2.2.2.2.1
  go_wp2_with fail
  go_quiet (fail)
  have HB2 := Lib.hid (below_drewN HB.out nq)
  have c8 : (w1.drewN nq).cell? ⟨w.heap.size, 8, none⟩ = some (.slice A 0 c) := by rw [World.cell?_drewN]; exact HX.out.c8
  clear y6
  go_wp2_with fail
  refine wp_loop_rounds 1 ?_
  rw [rounds_succ]
  go_wp2_with fail
  go_ret
  exact ⟨by first | rfl | (show Ending.returned (Value.bool _) = Ending.returned (Value.bool _); simp [*]), HB2.out⟩
end Go.Proofs.YtcofhgdfoamhpaaGreatDoor
